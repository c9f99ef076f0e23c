/-
  What RespMany answers: true.
-/
import Derived.Test.YtkcapbjmhimceaaDoorRespBack
import Derived.Test.YtkcapbjmhimceaaDoorRespApartOn
namespace Go.Proofs.YtkcapbjmhimceaaDoor
open Go.RowKit Rp

theorem slice_at {w : World} {rs : List Rep} {p : Option Addr} (h : SliceIn w rs p) (j : Nat) (hj : j < rs.length) : ∃ b o q d, p = some ⟨b, o, none⟩ ∧ CellsAt w b (o + j * 4) rs[j] q d ∧ RepIn w rs[j] q d := by
  rcases h with rfl | ⟨b, o, hp, hr⟩
  · simp at hj
  · obtain ⟨q, d, h1, h2⟩ := row_at hr j hj
    exact ⟨b, o, q, d, hp, h1, h2⟩

/-- What stands at the head of a round of the first loop. -/
structure Wants (w : World) (rs : List Rep) (i : Nat) (v : Value) (ys : List Held) (wr : World) : Prop where
  row : wr.ownsRow w.heap.size 26 4 v ys.length (flatK ys)
  eq : ys.map (·.1) = (rs.take i).filter (right 4)
  kids : ∀ y ∈ ys, RepIn w y.1 y.2.1 y.2.2
  below : Below w.heap.size w wr
  small : ∀ (j : Nat) (h : j < rs.length), j < i → size 9 rs[j] ≤ 100
  few : ys.length ≤ i

theorem written_filter : ∀ rs : List Rep, written rs = encL (rs.filter (right 4))
  | [] => rfl
  | r :: rs => by
    rw [written, List.filter_cons, written_filter rs]
    cases h : right 4 r <;> simp [encL]
theorem encL_len (M : Nat) : ∀ (l : List Rep), (∀ x ∈ l, (enc x).length ≤ M) → (encL l).length ≤ M * l.length
  | [], _ => by simp [encL]
  | x :: l, h => by
    have h1 := encL_len M l (fun y hy => h y (List.mem_cons_of_mem _ hy))
    have h2 := h x List.mem_cons_self
    rw [encL, List.length_append, List.length_cons, Nat.mul_succ]
    omega
theorem own_rest {w : World} {B : Nat} {v : Value} {l : List UInt8} (h : w.ownsRow B 5 1 v l.length (sCells l)) : ∃ q d, v = .slice q l.length d ∧ Rest w q d l := by
  have h0 := h
  rcases h.2 with ⟨rfl, hn⟩ | ⟨g, cap, cur, rfl, hB, hg, hn, hm, hs, ht⟩
  · have : l = [] := List.eq_nil_of_length_eq_zero hn
    subst this
    exact ⟨none, 0, rfl, .inl ⟨rfl, rfl, rfl⟩⟩
  · refine ⟨_, _, rfl, .inr ⟨g, 0, rfl, hn, hm, fun j hj => ?_⟩⟩
    have := h0.cellAt j (by omega)
    rw [Nat.zero_add, this]
    simp [sCells, hj]
theorem wants_at {w : World} {B : Nat} {va : Option Addr} {vc : Nat} {ys : List Held} (h : w.ownsRow B 26 4 (.slice va ys.length vc) ys.length (flatK ys)) (j : Nat) (hj : j < ys.length) :
    ∃ g, va = some ⟨g, 0, none⟩ ∧ CellsAt w g (j * 4) ys[j].1 ys[j].2.1 ys[j].2.2 := by
  have h0 := h
  rcases h.2 with ⟨hv, hn⟩ | ⟨g, cap, cur, hv, hB, hg, hn, hm, hs, ht⟩
  · omega
  · simp only [Value.slice.injEq, true_and] at hv
    obtain ⟨rfl, rfl⟩ := hv
    obtain ⟨f0, f1, f2, f3⟩ := flatK_at ys j hj
    refine ⟨g, rfl, (h0.cellAt (j * 4) (by omega)).trans f0, (h0.cellAt (j * 4 + 1) (by omega)).trans f1, (h0.cellAt (j * 4 + 2) (by omega)).trans f2, (h0.cellAt (j * 4 + 3) (by omega)).trans f3⟩

/-- What stands at the head of a round of the second loop. -/
structure Left (wb : World) (ys : List Held) (j : Nat) (l : List UInt8) (q : Option Addr) (d : Nat) (wr : World) : Prop where
  eq : l = encL ((ys.map (·.1)).drop j)
  rest : Rest wb q d l
  below : Below wb.heap.size wb wr
  short : l.length ≤ 1000000000

set_option maxRecDepth 20000 in
set_option maxHeartbeats 8000000 in
theorem many_on (rs : List Rep) (p : Option Addr) (c : Nat) (w : World) (hn20 : rs.length ≤ 20) (h : SliceIn w rs p) (hL : Errs w) (hR : Runes w) :
    Calls Tryd.prog 7 #[.slice p rs.length c] w fun e w' => e = .returned (.bool true) ∧ Below w.heap.size w w' := by
  obtain ⟨i0, hi, hz0, hz1, hz2⟩ := info_parts info_rep
  have H := Lib.hid h
  have HL := Lib.hid hL
  have HR := Lib.hid hR
  obtain ⟨n, hn⟩ : ∃ n : Nat, n = rs.length := ⟨_, rfl⟩
  rw [← hn] at hn20 ⊢
  have HNL := Lib.hid hn
  clear h hn hL hR
  have h20 : decide ((20 : Int) < (n : Int)) = false := decide_eq_false (by omega)
  go_enter Tryd.func7, Tryd.ntmps7
  go_wp2_with fail
  refine (awake_true _ HL.out.tab).mono ?_
  rintro e w1 ⟨rfl, hb1⟩
  go_wp2_with fail
  go_loopw [3, 4] (fun s3 s4 wr => ∃ (i : Nat) (ys : List Held), i ≤ n ∧ s4 = .int .i64 i ∧ Hid (Wants w rs i s3 ys wr)) (fun _ s4 _ => n - (intOf s4).toNat)
  case atStart => exact ⟨0, [], Nat.zero_le _, rfl, Lib.hid ⟨World.ownsRow_nil _ _ _ _, rfl, fun y hy => (by cases hy), hb1, fun j _ hj => absurd hj (Nat.not_lt_zero _), Nat.le_refl _⟩⟩
  case round =>
    obtain ⟨i, ys, hin, rfl, HW⟩ := hrel
    by_cases hlt : i < n
    · have hd : decide ((i : Int) < (n : Int)) = true := decide_eq_true (by omega)
      have hil : i < rs.length := by have := HNL.out; omega
      obtain ⟨b, o, q, d, rfl, hc, hr⟩ := slice_at H.out i hil
      obtain ⟨e0, e1, e2, e3⟩ := hc.below HW.out.below
      have HRI := Lib.hid hr
      have HF := Lib.hid (List.take_succ_eq_append_getElem hil)
      obtain ⟨r, hrd⟩ : ∃ r : Rep, rs[i] = r := ⟨_, rfl⟩
      rw [hrd] at e0 e1 e2 e3 HRI HF
      have HRD := Lib.hid hrd
      clear hc hr hrd
      obtain ⟨va, vc, rfl⟩ := row_len HW.out.row
      have KS := Lib.hid (refsize_any 9 (by omega) r q d wr (RepIn.below HW.out.below _ HRI.out))
      go_wp2_with fail
      refine KS.out.mono ?_
      rintro e w2 ⟨rfl, hb2⟩
      by_cases hs : size 9 r ≤ 100
      · have hsd : decide ((100 : Int) < ((size 9 r : Nat) : Int)) = false := decide_eq_false (by omega)
        have HS := Lib.hid hs
        have e0 := cK hb2 e0
        have e1 := cK hb2 e1
        have e2 := cK hb2 e2
        have e3 := cK hb2 e3
        have KR := Lib.hid (refright_any 4 (by omega) r q d w2 (RepIn.below (bT HW.out.below hb2) _ HRI.out))
        clear hs
        generalize size 9 r = sz at hsd ⊢
        go_wp2_with fail
        refine KR.out.mono ?_
        rintro e w3 ⟨rfl, hb3⟩
        have e0 := cK hb3 e0
        have e1 := cK hb3 e1
        have e2 := cK hb3 e2
        have e3 := cK hb3 e3
        have hb23 := bT hb2 hb3
        cases hrt : right 4 r
        · have HT := Lib.hid hrt
          clear hrt
          go_wp2_with fail
          go_roundw
          case rel => 
            refine ⟨i + 1, ys, by omega, by go_num, Lib.hid ⟨HW.out.row.kept (below_grown hb23 none) (by simp [Value.ownBlock]; cases va <;> simp), ?_, HW.out.kids, bT HW.out.below hb23, ?_, Nat.le_succ_of_le HW.out.few⟩⟩
            · rw [HF.out, List.filter_append, ← HW.out.eq]
              simp [HT.out]
            · intro j hj hji
              rcases Nat.lt_or_ge j i with h1 | h1
              · exact HW.out.small j hj h1
              · obtain rfl : j = i := by omega
                rw [HRD.out]; exact HS.out
          case measure => simp [intOf]; omega
        · have HT := Lib.hid hrt
          clear hrt
          have hsz := HW.out.below.size
          have hs3 := hb23.size
          have hfew := HW.out.few
          have HROW := Lib.hid (fun (X : Obj) => HW.out.row.kept (below_grown (bA hb23 X) none) (by simp [Value.ownBlock]; cases va <;> simp))
          go_wp2_with (at_builtin; refine wpList_append_own _ rfl (.tmp 35) (.tmp 40) 24 rfl w.heap.size 26 i0 (.agg #[.int .i64 0, .string ⟨#[]⟩, .int .i64 0, .slice none 0 0]) 4 56 Tryd.underlying24 hi hz0 hz1 hz2 rfl (by decide) _ ys.length _ rfl (HROW.out _) ⟨w3.heap.size, 0, none⟩ 1 1 [.int .i64 r.kind, .string (bs r.str), .int .i64 r.num, .slice q r.kids.length d] rfl rfl ?c1 (by intro y hy; simp at hy; rcases hy with rfl | rfl | rfl | rfl <;> rfl) (by unfold maxLen; omega) (by omega) (by simp; omega) ?_)
          case c1 =>
            intro k u hk
            have hnew := heap_alloc_new w3 (.cells #[.int .i64 r.kind, .string (bs r.str), .int .i64 r.num, .slice q r.kids.length d] 26)
            rw [Lib.add_plain, Nat.zero_add, Lib.cell_of_heap hnew]
            rw [← hk]
            match k with
            | 0 => rfl
            | 1 => rfl
            | 2 => rfl
            | 3 => rfl
            | k + 4 => rfl
          intro v' w4 hown hgrow hnil
          clear hnil
          have hvl := HW.out.row.lt
          have hB4 : Below w.heap.size w w4 := (bA (bT HW.out.below hb23) _).grown hgrow (by simp; omega) (fun k hk => (hvl k hk).1)
          have HG := Lib.hid hgrow
          clear hgrow
          obtain ⟨ua, um, uc, rfl⟩ := row_slice hown
          go_wp2_with fail
          go_roundw
          case rel =>
            refine ⟨i + 1, ys ++ [(r, q, d)], by omega, by go_num, Lib.hid ⟨?_, ?_, ?_, hB4, ?_, ?_⟩⟩
            · rw [flatK_snoc, List.length_append]; exact hown
            · rw [HF.out, List.filter_append, ← HW.out.eq]
              simp [HT.out]
            · intro y hy
              rcases List.mem_append.1 hy with hy | hy
              · exact HW.out.kids y hy
              · obtain rfl : y = (r, q, d) := by simpa using hy
                exact HRI.out
            · intro j hj hji
              rcases Nat.lt_or_ge j i with h1 | h1
              · exact HW.out.small j hj h1
              · obtain rfl : j = i := by omega
                rw [HRD.out]; exact HS.out
            · rw [List.length_append]; simp; omega
          case measure => simp [intOf]; omega
      · have hsd : decide ((100 : Int) < ((size 9 r : Nat) : Int)) = true := decide_eq_true (by omega)
        clear hs
        generalize size 9 r = sz at hsd ⊢
        go_wp2_with fail
        go_ret
        exact ⟨rfl, bT HW.out.below hb2⟩
    · have hd : decide ((i : Int) < (n : Int)) = false := decide_eq_false (by omega)
      obtain rfl : i = n := by omega
      obtain ⟨va, vc, rfl⟩ := row_len HW.out.row
      have hil := HNL.out
      have hys : ys.map (·.1) = rs.filter (right 4) := by rw [HW.out.eq, List.take_of_length_le (by omega)]
      have hyr : ∀ y ∈ ys, right 4 y.1 = true := fun y hy => by
        have : y.1 ∈ ys.map (·.1) := List.mem_map_of_mem hy
        rw [hys] at this
        exact (List.mem_filter.1 this).2
      have hwl : (written rs).length ≤ 210000 * rs.length := by
        rw [written_filter]
        refine Nat.le_trans (encL_len 210000 _ (fun x hx => ?_)) (Nat.mul_le_mul_left _ (List.length_filter_le _ _))
        obtain ⟨j, hj, rfl⟩ := List.getElem_of_mem (List.mem_filter.1 hx).1
        obtain ⟨b, o, q, d, _, _, hr⟩ := H.out.at_ j hj
        have h1 := HW.out.small j hj (by omega)
        have h2 := enc_len 9 _ q d hr (by omega)
        omega
      have HWR := Lib.hid (show Calls _ _ _ _ _ from by
        have := write_any rs p c wr (SliceIn.below HW.out.below H.out) (short_all fun x hx => by
          obtain ⟨j, hj, rfl⟩ := List.getElem_of_mem hx
          exact short_of 9 _ (by have := HW.out.small j hj (by omega); omega)) ((HL.out.on HW.out.below).tab) (by omega) (by omega)
        rw [← HNL.out] at this
        exact this)
      have HY := Lib.hid hyr
      have HLEN := Lib.hid hwl
      have HYS := Lib.hid hys
      clear hwl hyr hys hil
      go_wp2_with fail
      refine HWR.out.mono ?_
      rintro e wb ⟨v, rfl, hown, hbb⟩
      obtain ⟨qb, db, rfl, hrest⟩ := own_rest hown
      have hrow := HW.out.row.kept (below_grown hbb none) (by simp [Value.ownBlock]; cases va <;> simp)
      have HRW := Lib.hid hrow
      have HRS := Lib.hid hrest
      have hBB := bT HW.out.below hbb
      have hm20 : ys.length ≤ 20 := by have := HW.out.few; omega
      have hLb := Lib.hid (HL.out.on hBB)
      have hRb := Lib.hid (HR.out.on hBB)
      have HKD := Lib.hid (fun y hy => RepIn.below hBB y.1 (HW.out.kids y hy))
      have hwl : (written rs).length ≤ 1000000000 := by have := HLEN.out; have := HNL.out; omega
      have HWF := Lib.hid (show written rs = encL ((ys.map (·.1)).drop 0) by rw [written_filter, List.drop_zero, HYS.out])
      clear hown hrow hrest
      go_wp2_with fail
      go_loopw [5, 6] (fun s5 s6 wr => ∃ (j : Nat) (l : List UInt8) (q : Option Addr) (d : Nat), j ≤ ys.length ∧ s6 = .int .i64 j ∧ s5 = .slice q l.length d ∧ Hid (Left wb ys j l q d wr)) (fun _ s6 _ => ys.length - (intOf s6).toNat)
      case atStart => exact ⟨0, written rs, qb, db, Nat.zero_le _, rfl, rfl, Lib.hid ⟨HWF.out, HRS.out, Below.refl _ _, hwl⟩⟩
      case round =>
        obtain ⟨j, l, q, d, hj, rfl, rfl, HLF⟩ := hrel
        by_cases hjm : j < ys.length
        · have hd2 : decide ((j : Int) < (ys.length : Int)) = true := decide_eq_true (by omega)
          have hjy : j < ys.length := by omega
          obtain ⟨g, rfl, hca⟩ := wants_at HRW.out j hjy
          have hjm2 : j < (ys.map (·.1)).length := by rw [List.length_map]; exact hjy
          have hsp : l = enc ys[j].1 ++ encL ((ys.map (·.1)).drop (j + 1)) := by
            rw [HLF.out.eq, List.drop_eq_getElem_cons hjm2, encL, List.getElem_map]
          have hrk := HKD.out _ (List.getElem_mem hjy)
          have hrd := rd_enc wb ys[j].1 4 _ _ hrk (HY.out _ (List.getElem_mem hjy)) (encL ((ys.map (·.1)).drop (j + 1)))
          rw [← hsp] at hrd
          have hrl := rd_len 4 l _ _ hrd
          obtain ⟨l2, hl2⟩ : ∃ l2, encL ((ys.map (·.1)).drop (j + 1)) = l2 := ⟨_, rfl⟩
          rw [hl2] at hrd hrl hsp
          obtain ⟨y, hy⟩ : ∃ y, ys[j] = y := ⟨_, rfl⟩
          rw [hy] at hrd hsp hca hrk
          have HL2 := Lib.hid hl2
          have HSP := Lib.hid hsp
          have HRK := Lib.hid hrk
          have HRDD := Lib.hid (read_any l HLF.out.short q d wr (hLb.out.on HLF.out.below) (hRb.out.on HLF.out.below) (HLF.out.rest.below HLF.out.below))
          rw [hrd] at HRDD
          clear hl2 hsp hrk hrd hy hjm2
          go_wp2_with fail
          refine HRDD.out.mono ?_
          rintro e w7 ⟨hv, hb7⟩
          obtain ⟨q', d', rfl, hfrom⟩ := hv
          have hr7 := hfrom w7 (fun _ _ _ => rfl)
          have HR7 := Lib.hid hr7
          clear hfrom hr7
          simp only [repCs]
          obtain ⟨K, hK⟩ : ∃ K : Nat, l.length - l2.length = K := ⟨_, rfl⟩
          rw [hK]
          have hb7b := bT HLF.out.below hb7
          have hB7 : Below wb.heap.size wb (w7.alloc (.cells #[.int .i64 y.1.kind, .string (bs y.1.str), .int .i64 y.1.num, .slice q' y.1.kids.length d'] 26)) := bA hb7b _
          have hnew := heap_alloc_new w7 (.cells #[.int .i64 y.1.kind, .string (bs y.1.str), .int .i64 y.1.num, .slice q' y.1.kids.length d'] 26)
          have HR8 := Lib.hid (RepIn.below (bA (Below.refl _ w7) (.cells #[.int .i64 y.1.kind, .string (bs y.1.str), .int .i64 y.1.num, .slice q' y.1.kids.length d'] 26)) _ HR7.out)
          have hlb := load_box hnew
          go_wp2_with fail
          generalize w7.alloc (.cells #[.int .i64 y.1.kind, .string (bs y.1.str), .int .i64 y.1.num, .slice q' y.1.kids.length d'] 26 (0, 0)) = wC at *
          have KK : Hid (∀ w', Below wC.heap.size wC w' → Below wC.heap.size wC w' ∧ w'.cell? ⟨w7.heap.size, 0, none⟩ = some (.int .i64 y.1.kind) ∧ w'.cell? ⟨w7.heap.size, 1, none⟩ = some (.string (bs y.1.str)) ∧ w'.cell? ⟨w7.heap.size, 2, none⟩ = some (.int .i64 y.1.num) ∧ w'.cell? ⟨w7.heap.size, 3, none⟩ = some (.slice q' y.1.kids.length d') ∧ w'.cell? ⟨g, j * 4, none⟩ = some (.int .i64 y.1.kind) ∧ w'.cell? ⟨g, j * 4 + 1, none⟩ = some (.string (bs y.1.str)) ∧ w'.cell? ⟨g, j * 4 + 2, none⟩ = some (.int .i64 y.1.num) ∧ w'.cell? ⟨g, j * 4 + 3, none⟩ = some (.slice y.2.1 y.1.kids.length y.2.2)) := Lib.hid fun w' h => by
            obtain ⟨f0, f1, f2, f3⟩ := hlb w' h
            obtain ⟨g0, g1, g2, g3⟩ := hca.below (bT hB7 h)
            exact ⟨h, f0, f1, f2, f3, g0, g1, g2, g3⟩
          have KSm := Lib.hid (show ∀ W, Below wC.heap.size wC W → _ from fun W hw => refsame_any y.1 y.1 q' y.2.1 d' y.2.2 W (RepIn.below hw _ HR8.out) (RepIn.below (bT hB7 hw) _ HRK.out))
          rw [(same_iff y.1 y.1).2 rfl] at KSm
          clear hlb hnew hca
          go_region_held3 (fun w' => Below wC.heap.size wC w' ∧ w'.cell? ⟨w7.heap.size, 0, none⟩ = some (.int .i64 y.1.kind) ∧ w'.cell? ⟨w7.heap.size, 1, none⟩ = some (.string (bs y.1.str)) ∧ w'.cell? ⟨w7.heap.size, 2, none⟩ = some (.int .i64 y.1.num) ∧ w'.cell? ⟨w7.heap.size, 3, none⟩ = some (.slice q' y.1.kids.length d') ∧ w'.cell? ⟨g, j * 4, none⟩ = some (.int .i64 y.1.kind) ∧ w'.cell? ⟨g, j * 4 + 1, none⟩ = some (.string (bs y.1.str)) ∧ w'.cell? ⟨g, j * 4 + 2, none⟩ = some (.int .i64 y.1.num) ∧ w'.cell? ⟨g, j * 4 + 3, none⟩ = some (.slice y.2.1 y.1.kids.length y.2.2))
            ((first | exact KK.out _ (bD (Below.refl _ _)) | exact KK.out _ (bT (bD (Below.refl _ _)) hb9)))
            ((go_at_call 11; refine (KSm.out _ (bD (Below.refl _ _))).mono ?_; rintro e9 w9 ⟨rfl, hb9⟩))
          have hb10 := bT hB7 (bT (bD (Below.refl wC.heap.size wC)) hb9)
          clear hb9
          rename_i hHeld
          clear hHeld KK
          have hlen2 : l.length - K = l2.length := by omega
          have hKl : K ≤ l.length := by omega
          have hdrop : l.drop K = l2 := by
            have h1 := HSP.out
            have h2 := congrArg List.length h1
            rw [List.length_append] at h2
            have h3 : K = (enc y.1).length := by omega
            rw [h3, h1, List.drop_left]
          rcases HLF.out.rest with ⟨_, hl0, _⟩ | ⟨b', o', rfl, g1, g2, g3⟩
          · rw [hl0] at hrl; simp at hrl
          have HS2 := Lib.hid (fun q2 hq2 => (sub_from (b := b') (o := o') (c := d) (l := l) K hKl q2 hq2) wb HLF.out.rest)
          rw [hdrop] at HS2
          have HDR := Lib.hid (show l2 = encL ((ys.map (·.1)).drop (j + 1)) from HL2.out.symm)
          have HSH := Lib.hid (show l2.length ≤ 1000000000 by have := HLF.out.short; omega)
          have HLN := Lib.hid hlen2
          have hdm : d ≤ 9223372036854775807 := by unfold maxLen at g2; omega
          have HG1 := Lib.hid g1
          have hlm : l.length ≤ 1000000000 := HLF.out.short
          clear hlen2 hdrop g1 g2 g3 hK hrl
          by_cases hdK : d = K
          · subst hdK
            go_wp2_with fail
            go_roundw
            case rel => exact ⟨j + 1, l2, some ⟨b', o', none⟩, 0, by omega, by go_num, by rw [← HLN.out], Lib.hid ⟨HDR.out, by have h1 := HS2.out (some ⟨b', o', none⟩) (by simp); rw [Nat.sub_self] at h1; exact h1, hb10, HSH.out⟩⟩
            case measure => simp [intOf]; omega
          · have hKd : K < d := by have := HG1.out; omega
            go_wp2_with fail
            go_roundw
            case rel => exact ⟨j + 1, l2, some ⟨b', o' + K, none⟩, d - K, by omega, by go_num, by rw [← HLN.out], Lib.hid ⟨HDR.out, HS2.out _ (by rw [if_neg hdK]), hb10, HSH.out⟩⟩
            case measure => simp [intOf]; omega
        · have hd2 : decide ((j : Int) < (ys.length : Int)) = false := decide_eq_false (by omega)
          have hl0 : l = [] := by rw [HLF.out.eq, List.drop_eq_nil_of_le (by simp; omega)]; rfl
          subst hl0
          have hb9 := bT hBB HLF.out.below
          rw [List.length_nil] at *
          go_wp2_with fail
          go_ret
          exact ⟨rfl, hb9⟩

set_option maxHeartbeats 400000 in
theorem many_long (n : Nat) (p : Option Addr) (c : Nat) (w : World) (hn20 : ¬ n ≤ 20) (hT : Tens w) :
    Calls Tryd.prog 7 #[.slice p n c] w fun e w' => e = .returned (.bool true) ∧ Below w.heap.size w w' := by
  have HT := Lib.hid hT
  have h20 : decide ((20 : Int) < (n : Int)) = true := decide_eq_true (by omega)
  clear hT
  go_enter Tryd.func7, Tryd.ntmps7
  go_wp2_with fail
  refine (awake_true _ HT.out).mono ?_
  rintro e w1 ⟨rfl, hb1⟩
  go_wp2_with fail
  refine (awake_true _ (HT.out.on hb1)).mono ?_
  rintro e w2 ⟨rfl, hb2⟩
  go_wp2_with fail
  go_ret
  exact ⟨rfl, bT hb1 hb2⟩

/-- RespMany, of any replies. -/
theorem many_true (rs : List Rep) (p : Option Addr) (c : Nat) (w : World) (h : SliceIn w rs p) (hL : Errs w) (hR : Runes w) :
    Calls Tryd.prog 7 #[.slice p rs.length c] w fun e w' => e = .returned (.bool true) ∧ Below w.heap.size w w' := by
  by_cases hn : rs.length ≤ 20
  · exact many_on rs p c w hn h hL hR
  · exact many_long rs.length p c w hn hL.tab
end Go.Proofs.YtkcapbjmhimceaaDoor
