/-
  What RespWrites answers where the second reply alone is right: true.
-/
import Derived.Test.YtdeacankicciaaaDoorRespWritesF
import Derived.Test.YtdeacankicciaaaDoorRespWritesA
import Derived.Test.YtdeacankicciaaaDoorRespSameB
import Derived.Test.YtdeacankicciaaaDoorRespRefR
namespace Go.Proofs.YtdeacankicciaaaDoor
open Go.RowKit Rp

set_option maxRecDepth 20000 in
set_option maxHeartbeats 8000000 in
theorem writes_ft (a b : Rep) (p q : Option Addr) (c d : Nat) (pt : Option Addr) (nt ct : Nat) (w : World) (ha : RepIn w a p c) (hb : RepIn w b q d) (hT : Tens w) (h1 : size 9 a ≤ 300) (h2 : size 9 b ≤ 300) (ht : nt ≤ 300) (h3 : right 4 a = false) (h4 : right 4 b = true) :
    Calls Tryd.prog 4 #[.agg (repCs a p c), .agg (repCs b q d), .slice pt nt ct] w fun e w' => e = .returned (.bool true) ∧ Below w.heap.size w w' := by
  have KA := Lib.hid (show ∀ W, Below w.heap.size w W → _ from fun W h => awake_true W (hT.on h))
  have KSa := Lib.hid (show ∀ W, Below w.heap.size w W → _ from fun W hw => refsize_any 9 (by omega) a p c W (RepIn.below hw _ ha))
  have KSb := Lib.hid (show ∀ W, Below w.heap.size w W → _ from fun W hw => refsize_any 9 (by omega) b q d W (RepIn.below hw _ hb))
  have KRa := Lib.hid (show ∀ W, Below w.heap.size w W → _ from fun W hw => refright_any 4 (by omega) a p c W (RepIn.below hw _ ha))
  have KRb := Lib.hid (show ∀ W, Below w.heap.size w W → _ from fun W hw => refright_any 4 (by omega) b q d W (RepIn.below hw _ hb))
  have KPa := Lib.hid (show ∀ W, Below w.heap.size w W → _ from fun W hw => right_any a p c W (RepIn.below hw _ ha) (short_of 9 a h1))
  have KSm := Lib.hid (show ∀ W, Below w.heap.size w W → _ from fun W hw => refsame_any a b p q c d W (RepIn.below hw _ ha) (RepIn.below hw _ hb))
  have KSm2 := Lib.hid (show ∀ W, Below w.heap.size w W → _ from fun W hw => ressame_any a b p q c d W (RepIn.below hw _ ha) (RepIn.below hw _ hb))
  have KSm3 := Lib.hid (show ∀ W, Below w.heap.size w W → _ from fun W hw => ressame_any a a p p c c W (RepIn.below hw _ ha) (RepIn.below hw _ ha))
  have lb := enc_len 9 b q d hb h2
  have lb2 : (enc b).length ≤ 630000 := by omega
  have KWb := Lib.hid (show ∀ W, Below w.heap.size w W → _ from fun W hw => refwrite_any b (by omega) q d W (RepIn.below hw _ hb))
  have hsz : (bs (enc b)).size ≤ 630000 := by rw [bs_size]; exact lb2
  have hE : (⟨#[]⟩ : ByteArray) ++ bs (enc b) = bs (enc b) := by rw [show (⟨#[]⟩ : ByteArray) = bs [] from rfl, bs_app, List.nil_append]
  have HW := Lib.hid (show ∀ W g, Below w.heap.size w W → SliceIn W [a, b] (some ⟨g, 0, none⟩) → Calls Tryd.prog 18 #[.slice (some ⟨g, 0, none⟩) 2 2] W (Fresh W (enc b)) from fun W g hw hs => by
    have e : written [a, b] = enc b := by simp [written, h3, h4]
    have := write_any [a, b] (some ⟨g, 0, none⟩) 2 W hs (short_all fun x hx => by
      simp at hx
      rcases hx with rfl | rfl
      · exact short_of 9 _ h1
      · exact short_of 9 _ h2) (hT.on hw) (by simp) (by rw [e]; omega)
    rw [e] at this
    exact this)
  have HRa := Lib.hid ha
  have HRb := Lib.hid hb
  rw [h3] at KRa KPa
  rw [h4] at KRb
  rw [(same_iff a a).2 rfl] at KSm3
  clear ha hb hT h3 h4 lb lb2
  generalize hXX : enc b = xb at *
  clear hXX
  unfold repCs at KSa KSb KRa KRb KSm KPa KSm2 KSm3 KWb
  unfold repCs
  have sa : decide ((300 : Int) < ((size 9 a : Nat) : Int)) = false := decide_eq_false (by omega)
  generalize size 9 a = na at *
  have sb : decide ((300 : Int) < ((size 9 b : Nat) : Int)) = false := decide_eq_false (by omega)
  generalize size 9 b = nb at *
  have st : decide ((300 : Int) < (nt : Int)) = false := decide_eq_false (by omega)
  clear h1 h2
  generalize same a b = z at *
  go_enter Tryd.func4, Tryd.ntmps4
  go_wp2_with fail
  refine (KA.out _ (below2 (Below.refl _ _))).mono ?_
  rintro e w1 ⟨rfl, hb1⟩
  have hB1 := hb1
  obtain ⟨c01, c11, c21, c31⟩ := cells4 (boxA hB1)
  go_wp2_with fail
  refine (KSa.out _ (below2 (hB1))).mono ?_
  rintro e w2 ⟨rfl, hb2⟩
  have hB2 := bT (hB1) hb2
  obtain ⟨c02, c12, c22, c32⟩ := cells4 (boxB hB2)
  clear c01 c11 c21 c31
  go_wp2_with fail
  refine (KSb.out _ (below2 (hB2))).mono ?_
  rintro e w3 ⟨rfl, hb3⟩
  have hB3 := bT (hB2) hb3
  obtain ⟨c03, c13, c23, c33⟩ := cells4 (boxA hB3)
  clear c02 c12 c22 c32
  go_wp2_with fail
  refine (KRa.out _ (below2 (hB3))).mono ?_
  rintro e w4 ⟨rfl, hb4⟩
  have hB4 := bT (hB3) hb4
  obtain ⟨c04, c14, c24, c34⟩ := cells4 (boxB hB4)
  clear c03 c13 c23 c33
  go_wp2_with fail
  refine (KRb.out _ (below2 (hB4))).mono ?_
  rintro e w5 ⟨rfl, hb5⟩
  have hB5 := bT (hB4) hb5
  obtain ⟨c05, c15, c25, c35⟩ := cells4 (boxB hB5)
  clear c04 c14 c24 c34
  go_wp2_with fail
  refine (KWb.out _ (below2 hB5)).mono ?_
  rintro e w6 ⟨rfl, hb6⟩
  have hB6 := bT hB5 hb6
  clear c05 c15 c25 c35
  have hL5 := below2 hB6
  have lda := load_box (boxA hB6)
  have ldb := load_box (boxB hB6)
  clear hb1 hb2 hb3 hb4 hb5 hB1 hB2 hB3 hB4 hB5 hb6
  go_upto_region 9 with fail
  go_cut [70] from 42 to 70 (fun x wc => x = .bool false ∧ Below w6.heap.size w6 wc)
  case first =>
    refine wp_region_held_drew (S := fun w' => Below w6.heap.size w6 w') (by kernel_rfl) (bD (Below.refl _ _)) (fun hHeld => ?_)
    generalize w6.drew = v0 at hHeld ⊢
    have h5v0 := hHeld
    have hLv0 := bT hL5 h5v0
    replace lda := fun w' h => lda w' (bT h5v0 h)
    replace ldb := fun w' h => ldb w' (bT h5v0 h)
    refine held_swap (S' := fun w' => Below v0.heap.size v0 w') (fun w h => bT h5v0 h) _ _ _ _ ?_
    clear hHeld
    have hHeld : Below v0.heap.size v0 v0 := Below.refl _ _
    refine wpAnyH_take (i := 0) (v := ?_) rfl (by kernel_rfl) (by kernel_rfl) (by kernel_rfl) (fun _ _ _ h => h) (Or.inl ⟨by rfl, ?_⟩) (by assumption) ?_
    rotate_left
    · (intro w hSw; (try dsimp only at hSw); go_simp; try (with_reducible rfl))
    try simp only [Act.put, List.setIfInBounds_toArray, List.set_cons_zero, List.set_cons_succ, List.getElem_toArray, List.getElem_cons_zero]
    refine wpAnyH_take (i := 2) (v := ?_) rfl (by kernel_rfl) (by kernel_rfl) (by kernel_rfl) (fun _ _ _ h => h) (Or.inl ⟨by rfl, ?_⟩) (by assumption) ?_
    rotate_left
    · (intro w hSw; (try dsimp only at hSw); go_simp; try (with_reducible rfl))
    try simp only [Act.put, List.setIfInBounds_toArray, List.set_cons_zero, List.set_cons_succ, List.getElem_toArray, List.getElem_cons_zero, List.getElem_cons_succ]
    refine wpAnyH_ready (rs := [1]) (by kernel_rfl) (by simp) ?_
    refine (AllReadyH.cons rfl (fun K hK => ?_) AllReadyH.nil)
    · go_simp
      go_at_call 17
      refine (KPa.out v0 hLv0).mono ?_
      rintro e v1 ⟨rfl, hbv1⟩
      have h5v1 := bT h5v0 hbv1
      have hLv1 := bT hL5 h5v1
      replace lda := fun w' h => lda w' (bT hbv1 h)
      replace ldb := fun w' h => ldb w' (bT hbv1 h)
      refine hK.out _ _ hbv1 (fun _ => ?_)
      refine held_swap (S' := fun w' => Below v1.heap.size v1 w') (fun w h => bT hbv1 h) _ _ _ _ ?_
      clear hK K
      have hHeld : Below v1.heap.size v1 v1 := Below.refl _ _
      try simp only [Act.put, List.setIfInBounds_toArray, List.set_cons_zero, List.set_cons_succ, List.getElem_toArray, List.getElem_cons_zero, List.getElem_cons_succ]
      refine wpAnyH_ready (rs := [3]) (by kernel_rfl) (by simp) ?_
      refine (AllReadyH.cons rfl (fun K hK => ?_) AllReadyH.nil)
      · go_simp
        go_at_call 15
        refine (KRa.out v1 hLv1).mono ?_
        rintro e v2 ⟨rfl, hbv2⟩
        have h5v2 := bT h5v1 hbv2
        have hLv2 := bT hL5 h5v2
        replace lda := fun w' h => lda w' (bT hbv2 h)
        replace ldb := fun w' h => ldb w' (bT hbv2 h)
        refine hK.out _ _ hbv2 (fun _ => ?_)
        refine held_swap (S' := fun w' => Below v2.heap.size v2 w') (fun w h => bT hbv2 h) _ _ _ _ ?_
        clear hK K
        have hHeld : Below v2.heap.size v2 v2 := Below.refl _ _
        try simp only [Act.put, List.setIfInBounds_toArray, List.set_cons_zero, List.set_cons_succ, List.getElem_toArray, List.getElem_cons_zero, List.getElem_cons_succ]
        refine wpAnyH_take (i := 4) (v := ?_) rfl (by kernel_rfl) (by kernel_rfl) (by kernel_rfl) (fun _ _ _ h => h) (Or.inl ⟨by rfl, ?_⟩) (by assumption) ?_
        rotate_left
        · (intro w hSw; (try dsimp only at hSw); go_simp; try (with_reducible rfl))
        try simp only [Act.put, List.setIfInBounds_toArray, List.set_cons_zero, List.set_cons_succ, List.getElem_toArray, List.getElem_cons_zero, List.getElem_cons_succ]
        refine wpAnyH_take (i := 5) (v := ?_) rfl (by kernel_rfl) (by kernel_rfl) (by kernel_rfl) (fun _ _ _ h => h) (Or.inl ⟨by rfl, ?_⟩) (by assumption) ?_
        rotate_left
        · (intro w hSw; (try dsimp only at hSw); go_simp; try (with_reducible rfl))
        try simp only [Act.put, List.setIfInBounds_toArray, List.set_cons_zero, List.set_cons_succ, List.getElem_toArray, List.getElem_cons_zero, List.getElem_cons_succ]
        refine wpAnyH_take (i := 6) (v := ?_) rfl (by kernel_rfl) (by kernel_rfl) (by kernel_rfl) (fun _ _ _ h => h) (Or.inl ⟨by rfl, ?_⟩) (by assumption) ?_
        rotate_left
        · (intro w hSw; (try dsimp only at hSw); go_simp; try (with_reducible rfl))
        try simp only [Act.put, List.setIfInBounds_toArray, List.set_cons_zero, List.set_cons_succ, List.getElem_toArray, List.getElem_cons_zero, List.getElem_cons_succ]
        refine wpAnyH_take (i := 7) (v := ?_) rfl (by kernel_rfl) (by kernel_rfl) (by kernel_rfl) (fun _ _ _ h => h) (Or.inl ⟨by rfl, ?_⟩) (by assumption) ?_
        rotate_left
        · (intro w hSw; (try dsimp only at hSw); go_simp; try (with_reducible rfl))
        try simp only [Act.put, List.setIfInBounds_toArray, List.set_cons_zero, List.set_cons_succ, List.getElem_toArray, List.getElem_cons_zero, List.getElem_cons_succ]
        refine wpAnyH_take (i := 11) (v := ?_) rfl (by kernel_rfl) (by kernel_rfl) (by kernel_rfl) (fun _ _ _ h => h) (Or.inl ⟨by rfl, ?_⟩) (by assumption) ?_
        rotate_left
        · (intro w hSw; (try dsimp only at hSw); go_simp; try (with_reducible rfl))
        try simp only [Act.put, List.setIfInBounds_toArray, List.set_cons_zero, List.set_cons_succ, List.getElem_toArray, List.getElem_cons_zero, List.getElem_cons_succ]
        refine wpAnyH_ready (rs := [8]) (by kernel_rfl) (by simp) ?_
        refine (AllReadyH.cons rfl (fun K hK => ?_) AllReadyH.nil)
        · go_simp
          have hNv3 := heap_alloc_new v2 (.cells #[.int .i64 a.kind, .string (bs a.str), .int .i64 a.num, .slice p a.kids.length c, .int .i64 b.kind, .string (bs b.str), .int .i64 b.num, .slice q b.kids.length d] 26)
          have hbv3 := bA (Below.refl v2.heap.size v2) (.cells #[.int .i64 a.kind, .string (bs a.str), .int .i64 a.num, .slice p a.kids.length c, .int .i64 b.kind, .string (bs b.str), .int .i64 b.num, .slice q b.kids.length d] 26)
          generalize v2.alloc (.cells #[.int .i64 a.kind, .string (bs a.str), .int .i64 a.num, .slice p a.kids.length c, .int .i64 b.kind, .string (bs b.str), .int .i64 b.num, .slice q b.kids.length d] 26) = v3 at hNv3 hbv3 ⊢
          have hOv3 : SliceIn v3 [a, b] (some ⟨v2.heap.size, 0, none⟩) := slice_two hNv3 (RepIn.below (bT hLv2 hbv3) _ HRa.out) (RepIn.below (bT hLv2 hbv3) _ HRb.out)
          have h5v3 := bT h5v2 hbv3
          have hLv3 := bT hL5 h5v3
          replace lda := fun w' h => lda w' (bT hbv3 h)
          replace ldb := fun w' h => ldb w' (bT hbv3 h)
          refine hK.out _ _ hbv3 (fun _ => ?_)
          refine held_swap (S' := fun w' => Below v3.heap.size v3 w') (fun w h => bT hbv3 h) _ _ _ _ ?_
          clear hK K
          have hHeld : Below v3.heap.size v3 v3 := Below.refl _ _
          try simp only [Act.put, List.setIfInBounds_toArray, List.set_cons_zero, List.set_cons_succ, List.getElem_toArray, List.getElem_cons_zero, List.getElem_cons_succ]
          refine wpAnyH_ready (rs := [9]) (by kernel_rfl) (by simp) ?_
          refine (AllReadyH.cons rfl (fun K hK => ?_) AllReadyH.nil)
          · go_simp
            go_at_call 18
            refine (HW.out v3 _ hLv3 hOv3).mono ?_
            rintro e v4 ⟨uv4, rfl, hrowv4, hbv4⟩
            obtain ⟨uav4, umv4, ucv4, rfl⟩ := row_slice hrowv4
            have cvv4 := conv_all hrowv4
            have h5v4 := bT h5v3 hbv4
            have hLv4 := bT hL5 h5v4
            replace lda := fun w' h => lda w' (bT hbv4 h)
            replace ldb := fun w' h => ldb w' (bT hbv4 h)
            refine hK.out _ _ hbv4 (fun _ => ?_)
            refine held_swap (S' := fun w' => Below v4.heap.size v4 w') (fun w h => bT hbv4 h) _ _ _ _ ?_
            clear hK K
            have hHeld : Below v4.heap.size v4 v4 := Below.refl _ _
            try simp only [Act.put, List.setIfInBounds_toArray, List.set_cons_zero, List.set_cons_succ, List.getElem_toArray, List.getElem_cons_zero, List.getElem_cons_succ]
            refine wpAnyH_take (i := 10) (v := ?_) rfl (by kernel_rfl) (by kernel_rfl) (by kernel_rfl) (fun _ _ _ h => h) (Or.inl ⟨by rfl, ?_⟩) (by assumption) ?_
            rotate_left
            · (intro w hSw; (try dsimp only at hSw); go_simp; try (with_reducible rfl))
            try simp only [Act.put, List.setIfInBounds_toArray, List.set_cons_zero, List.set_cons_succ, List.getElem_toArray, List.getElem_cons_zero, List.getElem_cons_succ]
            refine wpAnyH_take (i := 12) (v := ?_) rfl (by kernel_rfl) (by kernel_rfl) (by kernel_rfl) (fun _ _ _ h => h) (Or.inl ⟨by rfl, ?_⟩) (by assumption) ?_
            rotate_left
            · (intro w hSw; (try dsimp only at hSw); go_simp; try (with_reducible rfl))
            try simp only [Act.put, List.setIfInBounds_toArray, List.set_cons_zero, List.set_cons_succ, List.getElem_toArray, List.getElem_cons_zero, List.getElem_cons_succ]
            refine wpAnyH_take (i := 13) (v := ?_) rfl (by kernel_rfl) (by kernel_rfl) (by kernel_rfl) (fun _ _ _ h => h) (Or.inl ⟨by rfl, ?_⟩) (by assumption) ?_
            rotate_left
            · (intro w hSw; (try dsimp only at hSw); go_simp; try (with_reducible rfl))
            try simp only [Act.put, List.setIfInBounds_toArray, List.set_cons_zero, List.set_cons_succ, List.getElem_toArray, List.getElem_cons_zero, List.getElem_cons_succ]
            refine wpAnyH_take (i := 14) (v := ?_) rfl (by kernel_rfl) (by kernel_rfl) (by kernel_rfl) (fun _ _ _ h => h) (Or.inl ⟨by rfl, ?_⟩) (by assumption) ?_
            rotate_left
            · (intro w hSw; (try dsimp only at hSw); go_simp; try (with_reducible rfl))
            try simp only [Act.put, List.setIfInBounds_toArray, List.set_cons_zero, List.set_cons_succ, List.getElem_toArray, List.getElem_cons_zero, List.getElem_cons_succ]
            refine wpAnyH_take (i := 15) (v := ?_) rfl (by kernel_rfl) (by kernel_rfl) (by kernel_rfl) (fun _ _ _ h => h) (Or.inl ⟨by rfl, ?_⟩) (by assumption) ?_
            rotate_left
            · (intro w hSw; (try dsimp only at hSw); go_simp; try (with_reducible rfl))
            try simp only [Act.put, List.setIfInBounds_toArray, List.set_cons_zero, List.set_cons_succ, List.getElem_toArray, List.getElem_cons_zero, List.getElem_cons_succ]
            refine wpAnyH_take (i := 16) (v := ?_) rfl (by kernel_rfl) (by kernel_rfl) (by kernel_rfl) (fun _ _ _ h => h) (Or.inl ⟨by rfl, ?_⟩) (by assumption) ?_
            rotate_left
            · (intro w hSw; (try dsimp only at hSw); go_simp; try (with_reducible rfl))
            try simp only [Act.put, List.setIfInBounds_toArray, List.set_cons_zero, List.set_cons_succ, List.getElem_toArray, List.getElem_cons_zero, List.getElem_cons_succ]
            refine wpAnyH_take (i := 18) (v := ?_) rfl (by kernel_rfl) (by kernel_rfl) (by kernel_rfl) (fun _ _ _ h => h) (Or.inl ⟨by rfl, ?_⟩) (by assumption) ?_
            rotate_left
            · (intro w hSw; (try dsimp only at hSw); go_simp; try (with_reducible rfl))
            try simp only [Act.put, List.setIfInBounds_toArray, List.set_cons_zero, List.set_cons_succ, List.getElem_toArray, List.getElem_cons_zero, List.getElem_cons_succ]
            refine wpAnyH_take (i := 19) (v := ?_) rfl (by kernel_rfl) (by kernel_rfl) (by kernel_rfl) (fun _ _ _ h => h) (Or.inl ⟨by rfl, ?_⟩) (by assumption) ?_
            rotate_left
            · (intro w hSw; (try dsimp only at hSw); go_simp; try (with_reducible rfl))
            try simp only [Act.put, List.setIfInBounds_toArray, List.set_cons_zero, List.set_cons_succ, List.getElem_toArray, List.getElem_cons_zero, List.getElem_cons_succ]
            refine wpAnyH_ready (rs := [17]) (by kernel_rfl) (by simp) ?_
            refine (AllReadyH.cons rfl (fun K hK => ?_) AllReadyH.nil)
            · go_simp
              go_at_call 13
              refine (KSm2.out v4 hLv4).mono ?_
              rintro e v5 ⟨rfl, hbv5⟩
              have h5v5 := bT h5v4 hbv5
              have hLv5 := bT hL5 h5v5
              replace lda := fun w' h => lda w' (bT hbv5 h)
              replace ldb := fun w' h => ldb w' (bT hbv5 h)
              refine hK.out _ _ hbv5 (fun _ => ?_)
              refine held_swap (S' := fun w' => Below v5.heap.size v5 w') (fun w h => bT hbv5 h) _ _ _ _ ?_
              clear hK K
              have hHeld : Below v5.heap.size v5 v5 := Below.refl _ _
              try simp only [Act.put, List.setIfInBounds_toArray, List.set_cons_zero, List.set_cons_succ, List.getElem_toArray, List.getElem_cons_zero, List.getElem_cons_succ]
              refine wpAnyH_ready (rs := [20]) (by kernel_rfl) (by simp) ?_
              refine (AllReadyH.cons rfl (fun K hK => ?_) AllReadyH.nil)
              · go_simp
                go_at_call 12
                refine (KSm.out v5 hLv5).mono ?_
                rintro e v6 ⟨rfl, hbv6⟩
                have h5v6 := bT h5v5 hbv6
                have hLv6 := bT hL5 h5v6
                replace lda := fun w' h => lda w' (bT hbv6 h)
                replace ldb := fun w' h => ldb w' (bT hbv6 h)
                refine hK.out _ _ hbv6 (fun _ => ?_)
                refine held_swap (S' := fun w' => Below v6.heap.size v6 w') (fun w h => bT hbv6 h) _ _ _ _ ?_
                clear hK K
                have hHeld : Below v6.heap.size v6 v6 := Below.refl _ _
                try simp only [Act.put, List.setIfInBounds_toArray, List.set_cons_zero, List.set_cons_succ, List.getElem_toArray, List.getElem_cons_zero, List.getElem_cons_succ]
                refine wpAnyH_take (i := 21) (v := ?_) rfl (by kernel_rfl) (by kernel_rfl) (by kernel_rfl) (fun _ _ _ h => h) (Or.inl ⟨by rfl, ?_⟩) (by assumption) ?_
                rotate_left
                · (intro w hSw; (try dsimp only at hSw); go_simp; try (with_reducible rfl))
                try simp only [Act.put, List.setIfInBounds_toArray, List.set_cons_zero, List.set_cons_succ, List.getElem_toArray, List.getElem_cons_zero, List.getElem_cons_succ]
                refine wpAnyH_take (i := 22) (v := ?_) rfl (by kernel_rfl) (by kernel_rfl) (by kernel_rfl) (fun _ _ _ h => h) (Or.inl ⟨by rfl, ?_⟩) (by assumption) ?_
                rotate_left
                · (intro w hSw; (try dsimp only at hSw); go_simp; try (with_reducible rfl))
                try simp only [Act.put, List.setIfInBounds_toArray, List.set_cons_zero, List.set_cons_succ, List.getElem_toArray, List.getElem_cons_zero, List.getElem_cons_succ]
                refine wpAnyH_take (i := 23) (v := ?_) rfl (by kernel_rfl) (by kernel_rfl) (by kernel_rfl) (fun _ _ _ h => h) (Or.inl ⟨by rfl, ?_⟩) (by assumption) ?_
                rotate_left
                · (intro w hSw; (try dsimp only at hSw); go_simp; try (with_reducible rfl))
                try simp only [Act.put, List.setIfInBounds_toArray, List.set_cons_zero, List.set_cons_succ, List.getElem_toArray, List.getElem_cons_zero, List.getElem_cons_succ]
                refine wpAnyH_take (i := 24) (v := ?_) rfl (by kernel_rfl) (by kernel_rfl) (by kernel_rfl) (fun _ _ _ h => h) (Or.inl ⟨by rfl, ?_⟩) (by assumption) ?_
                rotate_left
                · (intro w hSw; (try dsimp only at hSw); go_simp; try (with_reducible rfl))
                try simp only [Act.put, List.setIfInBounds_toArray, List.set_cons_zero, List.set_cons_succ, List.getElem_toArray, List.getElem_cons_zero, List.getElem_cons_succ]
                refine wpAnyH_take (i := 25) (v := ?_) rfl (by kernel_rfl) (by kernel_rfl) (by kernel_rfl) (fun _ _ _ h => h) (Or.inl ⟨by rfl, ?_⟩) (by assumption) ?_
                rotate_left
                · (intro w hSw; (try dsimp only at hSw); go_simp; try (with_reducible rfl))
                try simp only [Act.put, List.setIfInBounds_toArray, List.set_cons_zero, List.set_cons_succ, List.getElem_toArray, List.getElem_cons_zero, List.getElem_cons_succ]
                refine wpAnyH_ready (rs := [26]) (by kernel_rfl) (by simp) ?_
                refine (AllReadyH.cons rfl (fun K hK => ?_) AllReadyH.nil)
                · go_simp
                  go_at_call 13
                  refine (KSm3.out v6 hLv6).mono ?_
                  rintro e v7 ⟨rfl, hbv7⟩
                  have h5v7 := bT h5v6 hbv7
                  have hLv7 := bT hL5 h5v7
                  replace lda := fun w' h => lda w' (bT hbv7 h)
                  replace ldb := fun w' h => ldb w' (bT hbv7 h)
                  refine hK.out _ _ hbv7 (fun _ => ?_)
                  refine held_swap (S' := fun w' => Below v7.heap.size v7 w') (fun w h => bT hbv7 h) _ _ _ _ ?_
                  clear hK K
                  have hHeld : Below v7.heap.size v7 v7 := Below.refl _ _
                  try simp only [Act.put, List.setIfInBounds_toArray, List.set_cons_zero, List.set_cons_succ, List.getElem_toArray, List.getElem_cons_zero, List.getElem_cons_succ]
                  refine wpAnyH_take (i := 27) (v := ?_) rfl (by kernel_rfl) (by kernel_rfl) (by kernel_rfl) (fun _ _ _ h => h) (Or.inl ⟨by rfl, ?_⟩) (by assumption) ?_
                  rotate_left
                  · (intro w hSw; (try dsimp only at hSw); go_simp; try (with_reducible rfl))
                  try simp only [Act.put, List.setIfInBounds_toArray, List.set_cons_zero, List.set_cons_succ, List.getElem_toArray, List.getElem_cons_zero, List.getElem_cons_succ]
                  refine wpAnyH_take (i := 28) (v := ?_) rfl (by kernel_rfl) (by kernel_rfl) (by kernel_rfl) (fun _ _ _ h => h) (Or.inl ⟨by rfl, ?_⟩) (by assumption) ?_
                  rotate_left
                  · (intro w hSw; (try dsimp only at hSw); go_simp; try (with_reducible rfl))
                  try simp only [Act.put, List.setIfInBounds_toArray, List.set_cons_zero, List.set_cons_succ, List.getElem_toArray, List.getElem_cons_zero, List.getElem_cons_succ]
                  refine wpAnyH_done (by kernel_rfl) ?_ _
                  go_wp2_with fail
                  go_meet
                  exact ⟨rfl, h5v7⟩
  case rest =>
    obtain ⟨rfl, hb6⟩ := hcut
    go_wp2
    go_ret
    exact ⟨rfl, bT hL5 hb6⟩
end Go.Proofs.YtdeacankicciaaaDoor
