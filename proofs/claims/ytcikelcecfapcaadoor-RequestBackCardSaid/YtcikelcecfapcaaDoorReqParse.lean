/-
  (*request.Reader).parse.
-/
import Derived.Test.YtcikelcecfapcaaDoorReqState
import Derived.Deep.LoopGhost
import Derived.RegionTactic
import Derived.StillTailTactics
import Derived.IntWalk
namespace Go.Proofs.YtcikelcecfapcaaDoor
open Go.RowKit Rp Rq

theorem Parts.push {K : Ctx} (Ko : K.Ok) {er : Int} {pv : Value} {c : Int} {wv : Value} {tk : Int} {ws : List Wd} {cv : Value} {xs : List Hc} {w wA w3 : World} (P : Parts K er pv c wv tk ws cv xs w) (hb : Below w.heap.size w wA) (hgrow : wA.grownBy w3 wv.ownBlock) {wd : Wd} {g cap N : Nat} (hN : N = ws.length + 1)
    (hown : w3.ownsRow (K.R + 1) 9 1 (.slice (some ⟨g, 0, none⟩) N cap) N (wCells (ws ++ [wd]))) (hg : wv.ownBlock = some g ∨ w.heap.size ≤ g) :
    Parts K er pv c (.slice (some ⟨g, 0, none⟩) N cap) tk (ws ++ [wd]) cv xs (w3.setCell ⟨K.R, 3, none⟩ (.slice (some ⟨g, 0, none⟩) N cap)) := by
  have hwR : wv.ownBlock ≠ some K.R := own_ne P.words P.box (by decide)
  have hwC : wv.ownBlock ≠ some K.C := own_ne P.words P.var (by decide)
  have h1 : Chg (fun k => wv.ownBlock = some k) w w3 := (Chg.below hb _).trans (Chg.grown hgrow) (fun k _ e => e.symm)
  have h2 := Chg.setCell w3 ⟨K.R, 3, none⟩ (.slice (some ⟨g, 0, none⟩) N cap)
  have hch : Chg (fun k => k = K.R ∨ wv.ownBlock = some k) w (w3.setCell ⟨K.R, 3, none⟩ (.slice (some ⟨g, 0, none⟩) N cap)) := (h1.weaken (fun k _ e => .inr e)).trans h2 (fun k _ e => .inl e)
  have hbox3 : Box w3 K.R er pv c wv tk := h1.box P.box hwR
  have hgR : g ≠ K.R := by
    rcases hg with h | h
    · exact fun e => hwR (by rw [h, e])
    · have := P.box.lt; omega
  have hlen : (ws ++ [wd]).length = N := by rw [hN]; simp
  refine ⟨heap_set hbox3 _, hch.box P.var (fun e => e.elim (fun e => P.ne e.symm) hwC), ?_, hch.own P.told (fun k hk e => ?_), fun x hx e => ?_, fun k hk => ?_, P.cnew, P.keep Ko hch (fun k e => e.elim .inl (fun e => .inr (.inr (.inl e))))⟩
  · rw [hlen]
    exact h2.own hown (fun k hk e => by
      simp [Value.ownBlock] at hk
      exact hgR (hk.trans e))
  · rcases e with e | e
    · exact own_ne P.told P.box (by decide) (e ▸ hk)
    · exact own_apart P.told P.words (by decide) k hk e
  · simp only [Value.ownBlock, Option.some.injEq] at e
    rcases hg with h | h
    · exact P.apart x hx (by rw [h, e])
    · obtain ⟨cur, hcur⟩ := (P.kept.own x hx).block
      have := (Array.getElem?_eq_some_iff.1 hcur).1
      omega
  · simp [Value.ownBlock] at hk
    subst hk
    rcases hg with h | h
    · exact P.wnew _ h
    · exact .inr (Nat.le_trans P.kept.chg.size h)

/-- A step that tells a command, from whatever stands in the meantime. -/
theorem tell_from {K : Ctx} (Ko : K.Ok) {s s' : St} {p q : Option Addr} {c d : Nat} {wv cv cv' : Value} {xs : List Hc} {x : Hc} {w w7 w' : World} (P : Pst K s p c wv cv xs w) {er : Int} {pv : Value} {c7 : Int} {wv7 : Value} {tk7 : Int} {ws7 : List Wd} (P7 : Parts K er pv c7 wv7 tk7 ws7 cv xs w7) (hs : Rq.step s = .ok (s', [x.ws])) (hn : s' = St.new s'.l) {ex : Nat → Prop} (hch : Chg ex w7 w')
    (he : ∀ k, ex k → k = K.R ∨ k = K.C ∨ wv7.ownBlock = some k ∨ cv.ownBlock = some k) (hb : Box w' K.R 0 (.slice q s'.l.length d) 0 (.slice none 0 0) 0) (hsub : Sub p c s.l q d s'.l) (hvar : w'.heap[K.C]? = some (.cells #[cv'] 41 (0, 0)))
    (htold : w'.ownsRow (K.R + 1) 50 1 cv' (xs ++ [x]).length (hCells (xs ++ [x]))) (hg : ∀ k, cv'.ownBlock = some k → K.w0.heap.size ≤ k) (hxo : Own w' (K.R + 1) x) : Pst K s' q d (.slice none 0 0) cv' (xs ++ [x]) w' := by
  have hlen := step_len hs
  have hk := P7.keep Ko hch he
  have h0 : s'.c = 0 ∧ s'.ws = [] ∧ s'.tk = 0 := by rw [hn]; exact ⟨rfl, rfl, rfl⟩
  refine ⟨fun cs t h => ?_, P.sub.trans hsub, ⟨?_, hvar, ?_, htold, fun y _ => by simp [Value.ownBlock], fun k hk => by simp [Value.ownBlock] at hk, hg, ⟨hk.rest, fun y hy => ?_, hk.chg, hk.below⟩⟩, fun _ => ⟨h0.2.1, h0.2.2, rfl⟩, fun h => absurd h0.1 h, by rw [h0.1]; omega, ?_, ?_, .inl (P.less hlen)⟩
  · have := P.go _ _ (Rq.Go.next hs h)
    rw [List.map_append, List.append_assoc]
    exact this
  · rw [h0.1, h0.2.2]
    exact hb
  · rw [h0.2.1]
    exact World.ownsRow_nil _ _ _ _
  · rcases List.mem_append.1 hy with hy | hy
    · exact hk.own y hy
    · obtain rfl : y = x := by simpa using hy
      exact hxo
  · have := P.num
    rw [List.length_append]
    simp only [List.length_cons, List.length_nil]
    omega
  · have := P.num
    rw [h0.2.2]
    omega
theorem Chg.drewN (w : World) (n : Nat) (ex : Nat → Prop) : Chg ex w (w.drewN n) := ⟨rfl, rfl, rfl, Nat.le_refl _, fun _ _ _ => rfl⟩

theorem wordQ_errne {l : List UInt8} {e : Int} (h : wordQ l = .error e) : (e != 0) = true := by
  unfold wordQ at h
  split at h
  · rename_i hl; cases h; exact lineQ_errne hl
  · cases h; rfl
  · split at h
    · split at h
      · rename_i hn; cases h; exact numQ_errne hn
      · unfold bodyQ at h
        split at h
        · cases h; rfl
        · split at h
          · cases h
          · cases h; rfl
    · cases h; rfl

set_option maxRecDepth 40000 in
set_option maxHeartbeats 8000000 in
theorem rparse_any (K : Ctx) (Ko : K.Ok) (p : Option Addr) (c : Nat) (wv cv : Value) (xs : List Hc) (w : World) (P : Pst K K.s0 p c wv cv xs w) :
    Calls Tryd.prog 40 #[.pointer (some ⟨K.R, 0, none⟩), .func (.func 39) #[] #[.pointer (some ⟨K.C, 0, none⟩)]] w (ParseV K) := by
  obtain ⟨i0, hi, hz0, hz1, hz2⟩ := info_parts info_str
  have HP := Lib.hid P
  have HBG := Lib.hid (fun s p c wv cv xs w P hc => begin_any K Ko s p c wv cv xs w P hc)
  have HKo := Lib.hid Ko
  clear P Ko
  go_enter Tryd.func40, Tryd.ntmps40
  go_wp2
  go_step3
  go_wp2
  go_step3
  go_wp2
  go_loopg [5] K.s0.l.length (fun g _ wx => ∃ s p c wv cv xs, s.l.length ≤ g ∧ Hid (Pst K s p c wv cv xs wx))
  case atStart => exact ⟨_, _, _, _, _, _, Nat.le_refl _, HP⟩
  case round =>
    obtain ⟨s, p, c, wv, cv, xs, hsg, HS⟩ := hrel
    go_wp2
    go_loopg [5] s.l.length (fun g2 _ wx => ∃ s p c wv cv xs, s.l.length ≤ g2 ∧ g2 ≤ gk ∧ Hid (Pst K s p c wv cv xs wx))
    case atStart => exact ⟨_, _, _, _, _, _, Nat.le_refl _, hsg, HS⟩
    case round =>
      clear HS hsg s p c wv cv xs
      obtain ⟨s, p, c, wv, cv, xs, hsg, hgg, HS⟩ := hrel
      obtain ⟨z0, z1, z2, z3, z4⟩ := cells5 HS.out.parts.box
      by_cases hc : s.c = 0
      · have hcb : ((s.c : Int) == 0) = true := beq_iff_eq.2 (by omega)
        have HC0 := Lib.hid hc
        clear hc
        go_wp2_with fail
        refine (HBG.out s p c wv cv xs _ HS.out HC0.out).mono ?_
        rintro e w1 hv
        rcases hv with ⟨x, rfl, hx, hpv⟩ | ⟨s', p', c', wv', cv', xs', rfl, hl, hp⟩
        · have HPV := Lib.hid hpv
          clear hpv
          go_wp2
          try rw [Exit.noGoto_ret]
          go_ret
          exact HPV.out
        · have HP' := Lib.hid hp
          clear hp
          go_wp2_with fail
          go_roundg s'.l.length
          case measure => omega
          case rel => exact ⟨s', p', c', wv', cv', xs', Nat.le_refl _, by omega, HP'⟩
      · have hcb : ((s.c : Int) == 0) = false := beq_eq_false_iff_ne.2 (by omega)
        have HCN := Lib.hid hc
        go_wp2
        clear hc z0 z1 z2 z3 z4
        go_loopg [6] s.l.length (fun g3 _ wx => ∃ s p c wv cv xs, s.l.length ≤ g3 ∧ g3 ≤ gk ∧ Hid (s.c ≠ 0) ∧ Hid (Pst K s p c wv cv xs wx))
        case atStart => exact ⟨_, _, _, _, _, _, Nat.le_refl _, hsg, HCN, HS⟩
        case round =>
          obtain ⟨s, p, c, wv, cv, xs, hsg, hg3, HCN, HS⟩ := hrel
          obtain ⟨z0, z1, z2, z3, z4⟩ := cells5 HS.out.parts.box
          have HCW := Lib.hid (cutword_any s.l (by have := HS.out.num; omega) p c _ (HKo.out.errs.on HS.out.parts.kept.below) (HS.out.sub _ HS.out.parts.rest))
          have hnum := HS.out.num
          go_wp2_with fail
          refine HCW.out.mono ?_
          rintro e w1 ⟨hv, hb1⟩
          cases hq : wordQ s.l with
          | error x =>
            rw [hq] at hv
            obtain rfl := hv
            have hst : Rq.step s = .error x := by rw [step_word HCN.out, wordStep, hq]
            have hx : (x != 0) = true := wordQ_errne hq
            have HPV := Lib.hid (HS.out.halt HKo.out hst hb1)
            clear hq hst
            go_wp2
            try rw [Exit.noGoto_ret]
            go_ret
            exact HPV.out
          | ok z =>
            obtain ⟨wd, r⟩ := z
            rw [hq] at hv
            obtain ⟨q, d, rfl, hsub⟩ := hv
            have hlen := wordQ_len hq
            have HQ := Lib.hid hq
            have HSUB := Lib.hid hsub
            have hB1 := HS.out.parts.box.below hb1
            obtain ⟨y0, y1, y2, y3, y4⟩ := cells5 hB1
            have fy := frozen4 hB1
            have HB1 := Lib.hid hB1
            have HOWA := Lib.hid (fun o => (((Chg.below hb1 (fun _ => False)).own HS.out.parts.words (fun _ _ h => h)).alloc o))
            have hfew := HS.out.few HCN.out
            have hmost := HS.out.most
            have hlt1 := HB1.out.lt
            obtain ⟨N, hN⟩ : ∃ N, N = s.ws.length + 1 := ⟨_, rfl⟩
            clear hq hsub hB1 z0 z1 z2 z3 z4
            go_wp2_with (at_builtin; refine wpList_append_lies _ rfl (.tmp 36) (.tmp 38) 50 rfl (K.R + 1) 9 i0 (.string ⟨#[]⟩) 1 16 Tryd.underlying50 hi hz0 hz1 hz2 rfl (by decide) wv s.ws.length (wCells s.ws) rfl (HOWA.out _) ⟨w1.heap.size, 0, none⟩ 1 1 [.string (bs wd)] rfl rfl ?c1 (by intro y hy; simp at hy; rw [hy]; rfl) (by decide) (by unfold maxLen; omega) (by omega) (by simp; omega) (w1.heap.size + 1) (by simp) ?_)
            case c1 =>
              intro k u hk
              rw [Lib.add_plain, Nat.zero_add, Lib.cell_of_heap (heap_alloc_new w1 _), ← hk]
              match k with
              | 0 => rfl
              | k + 1 => rfl
            intro g cap w3 hown hgrow hg hgl
            rw [← hN] at hown ⊢
            rw [← wCells_snoc] at hown
            have hs1 := hb1.size
            have hg' : wv.ownBlock = some g ∨ _ ≤ g := hg.imp id (fun e => by rw [e]; exact Nat.le_succ_of_le hs1)
            have P4 := Lib.hid (HS.out.parts.push HKo.out (bA hb1 _) hgrow hN hown hg')
            have hB3 : Box w3 K.R 0 (.slice p s.l.length c) s.c wv s.tk := (Chg.grown hgrow).box ((Chg.below (bA (Below.refl w1.heap.size w1) _) (fun _ => False)).box HB1.out (fun h => h)) (fun e => own_ne HS.out.parts.words HS.out.parts.box (by decide) e.symm)
            obtain ⟨x0, x1, x2, x3, x4⟩ := cells5 hB3
            have fx := frozen4 hB3
            have HN := Lib.hid hN
            clear hown hgrow hg hB3 y0 y1 y2 y3 y4 fy hN
            go_wp2_with fail
            generalize w3.setCell ⟨K.R, 3, none⟩ (.slice (some ⟨g, 0, none⟩) N cap) = w4 at *
            clear x0 x1 x2 x3 x4 fx
            obtain ⟨v0, v1, v2, v3, v4⟩ := cells5 P4.out.box
            have fv := frozen4 P4.out.box
            obtain ⟨D, hD⟩ : ∃ D : Nat, s.l.length - r.length = D := ⟨_, rfl⟩
            have htks := HS.out.tks
            have hsub1 : IntKind.i64.wrap ((s.l.length : Int) - (r.length : Int)) = (D : Int) := by
              rw [IntWalk.i64_in _ (by omega)]
              omega
            have hsub2 : IntKind.i64.wrap ((s.tk : Int) + (D : Int)) = ((s.tk + D : Nat) : Int) := by
              rw [IntWalk.i64_in _ (by omega)]
              omega
            go_still_tail 15, (by kernel_rfl)
            change wpList _ _ _ _ _ w4.drew
            have P5 := Lib.hid (P4.out.stored HKo.out (Chg.below (bD (Below.refl w4.heap.size w4)) _) (show Box w4.drew K.R 0 (.slice p s.l.length c) s.c (.slice (some ⟨g, 0, none⟩) N cap) s.tk from P4.out.box))
            generalize w4.drew = w5 at *
            clear v0 v1 v2 v3 v4 fv
            obtain ⟨v0, v1, v2, v3, v4⟩ := cells5 P5.out.box
            have fv := frozen4 P5.out.box
            go_wp2_with fail
            have P6a := P5.out.stored HKo.out (Chg.setCell w5 ⟨K.R, 4, none⟩ (.int .i64 ((s.tk : Int) + (D : Int)))) (heap_set P5.out.box (.int .i64 ((s.tk : Int) + (D : Int))))
            have P6 := Lib.hid (P6a.stored HKo.out (Chg.setCell _ ⟨K.R, 1, none⟩ (.slice q r.length d)) (heap_set P6a.box (.slice q r.length d)))
            clear P6a v0 v1 v2 v3 v4 fv
            generalize (w5.setCell ⟨K.R, 4, none⟩ (.int .i64 ((s.tk : Int) + (D : Int)))).setCell ⟨K.R, 1, none⟩ (.slice q r.length d) = w6 at *
            obtain ⟨v0, v1, v2, v3, v4⟩ := cells5 P6.out.box
            have fv := frozen4 P6.out.box
            by_cases hlast : N = s.c
            · have hlb : ((N : Int) == (s.c : Int)) = true := beq_iff_eq.2 (by omega)
              have HLAST := Lib.hid hlast
              clear hlast
              go_quiet (fail)
              have P7 := Lib.hid (P6.out.stored HKo.out (Chg.drewN w6 nq _) (show Box (w6.drewN nq) K.R 0 (.slice q r.length d) s.c (.slice (some ⟨g, 0, none⟩) N cap) ((s.tk : Int) + (D : Int)) from P6.out.box))
              generalize w6.drewN nq = w7 at *
              clear v0 v1 v2 v3 v4 fv
              obtain ⟨v0, v1, v2, v3, v4⟩ := cells5 P7.out.box
              obtain ⟨x, hx⟩ : ∃ x : Hc, x = ⟨s.ws ++ [wd], g, cap⟩ := ⟨_, rfl⟩
              have hxv : (.slice (some ⟨g, 0, none⟩) N cap : Value) = x.val := by rw [hx, HN.out]; simp [Hc.val]
              have HT := Lib.hid (tell_any K.C (K.R + 1) xs x cv w7 P7.out.var P7.out.told (Nat.succ_le_of_lt P7.out.box.lt) (by omega))
              rw [← hxv] at HT
              have HX := Lib.hid hx
              have HXV := Lib.hid hxv
              clear hx hxv
              go_wp2_with fail
              refine HT.out.mono ?_
              rintro e w8 ⟨g2, cap2, rfl, hvar, htold, hch, hg2⟩
              have HVAR := Lib.hid hvar
              have HTOLD := Lib.hid htold
              have HCH := Lib.hid hch
              have HG2 := Lib.hid hg2
              have hcvR : cv.ownBlock ≠ some K.R := own_ne P7.out.told P7.out.box (by decide)
              have HB8 := Lib.hid (hch.box P7.out.box (fun e => e.elim P7.out.ne hcvR))
              have HCVR := Lib.hid hcvR
              clear hvar htold hch hg2 hcvR v0 v1 v2 v3 v4
              obtain ⟨v0, v1, v2, v3, v4⟩ := cells5 HB8.out
              have fv := frozen4 HB8.out
              go_wp2_with fail
              go_roundg r.length
              case measure => omega
              case rel =>
                have hst : Rq.step s = .ok (St.new r, [x.ws]) := by
                  rw [step_word HCN.out, wordStep, HQ.out]
                  simp only
                  rw [if_pos (by rw [← HN.out]; exact HLAST.out), HX.out]
                have hs1 := Chg.setCell w8 ⟨K.R, 2, none⟩ (.int .i64 0)
                have hs2 := Chg.setCell (w8.setCell ⟨K.R, 2, none⟩ (.int .i64 0)) ⟨K.R, 3, none⟩ (.slice none 0 0)
                have hs3 := Chg.setCell ((w8.setCell ⟨K.R, 2, none⟩ (.int .i64 0)).setCell ⟨K.R, 3, none⟩ (.slice none 0 0)) ⟨K.R, 4, none⟩ (.int .i64 0)
                have hs := (hs1.trans hs2 (fun k _ e => e)).trans hs3 (fun k _ e => e)
                have hgR : g2 ≠ K.R := by
                  rcases HG2.out with h | h
                  · exact fun e => HCVR.out (by rw [h, e])
                  · have := P7.out.box.lt; omega
                have hxo : Own w7 (K.R + 1) x := by
                  unfold Own
                  rw [← HXV.out, HX.out]
                  exact P7.out.words
                refine ⟨_, q, d, _, _, xs ++ [x], Nat.le_refl _, Lib.hid (tell_from HKo.out HS.out P7.out hst rfl (ex := fun k => k = K.R ∨ k = K.C ∨ cv.ownBlock = some k) ?_ (fun k e => ?_) (heap_set (heap_set (heap_set HB8.out _) _) _) HSUB.out (hs.box HVAR.out (fun e => P7.out.ne e.symm)) (hs.own HTOLD.out (fun k hk e => ?_)) (fun k hk => ?_) ?_)⟩
                · exact (HCH.out.weaken (fun k _ e => .inr e)).trans hs (fun k _ e => .inl e)
                · exact e.imp id (fun e => e.imp id .inr)
                · simp [Value.ownBlock] at hk
                  exact hgR (hk.trans e)
                · simp [Value.ownBlock] at hk
                  subst hk
                  rcases HG2.out with h | h
                  · exact P7.out.cnew _ h
                  · exact Nat.le_trans P7.out.kept.chg.size h
                · refine hs.own (HCH.out.own hxo (fun k hk e => ?_)) (fun k hk e => ?_)
                  · rcases e with e | e
                    · exact own_ne hxo P7.out.var (by decide) (e ▸ hk)
                    · exact own_apart hxo P7.out.told (by decide) k hk e
                  · exact own_ne hxo P7.out.box (by decide) ((show k = K.R from e) ▸ hk)
            · have hlb : ((N : Int) == (s.c : Int)) = false := beq_eq_false_iff_ne.2 (by omega)
              have HLAST := Lib.hid hlast
              clear hlast
              go_quiet (fail)
              have P7 := Lib.hid (P6.out.stored HKo.out (Chg.drewN w6 nq _) (show Box (w6.drewN nq) K.R 0 (.slice q r.length d) s.c (.slice (some ⟨g, 0, none⟩) N cap) ((s.tk : Int) + (D : Int)) from P6.out.box))
              generalize w6.drewN nq = w7 at *
              go_wp2_with fail
              go_roundg r.length
              case measure => omega
              case rel =>
                have hst : Rq.step s = .ok (⟨s.c, s.ws ++ [wd], s.tk + D, r⟩, []) := by
                  rw [step_word HCN.out, wordStep, HQ.out]
                  simp only
                  rw [if_neg (by rw [← HN.out]; exact HLAST.out), hD]
                have hN := HN.out
                have hL := HLAST.out
                refine ⟨⟨s.c, s.ws ++ [wd], s.tk + D, r⟩, q, d, .slice (some ⟨g, 0, none⟩) N cap, cv, xs, Nat.le_refl _, by show r.length ≤ _; omega, HCN, Lib.hid ⟨fun cs t h => HS.out.go cs t (Rq.Go.next hst h), HS.out.sub.trans HSUB.out, ?_, fun h => absurd h HCN.out, fun _ => ?_, HS.out.most, ?_, ?_, .inl (HS.out.less (step_len hst))⟩⟩
                · show Parts K 0 (.slice q r.length d) s.c _ ((s.tk + D : Nat) : Int) (s.ws ++ [wd]) cv xs w7
                  rw [Int.natCast_add]
                  exact P7.out
                · show (s.ws ++ [wd]).length < s.c
                  rw [List.length_append]
                  simp only [List.length_cons, List.length_nil]
                  omega
                · show xs.length + r.length ≤ _
                  omega
                · show s.tk + D + r.length ≤ _
                  omega
end Go.Proofs.YtcikelcecfapcaaDoor
