/-
  What RespApart answers of two right replies: true.
-/
import Derived.Test.YtkcapbjmhimceaaDoorRespApartA
import Derived.Deep.RegionHeld3
import Derived.Deep.CutRange
import Derived.Deep.DeepCutAuto
namespace Go.Proofs.YtkcapbjmhimceaaDoor
open Go.RowKit Rp

theorem SliceIn.below {w w' : World} (hb : Below w.heap.size w w') {l : List Rep} {p : Option Addr} (h : SliceIn w l p) : SliceIn w' l p := by
  rcases h with rfl | ⟨b, o, hp, hr⟩
  · exact .inl rfl
  · exact .inr ⟨b, o, hp, RowIn.below hb hr⟩
theorem slice_new {w : World} {g : Nat} {r : Rep} {q : Option Addr} {c : Nat} (hN : w.heap[g]? = some (.cells #[.int .i64 r.kind, .string (bs r.str), .int .i64 r.num, .slice q r.kids.length c] 26 (0, 0))) (h : RepIn w r q c) : SliceIn w [r] (some ⟨g, 0, none⟩) := by
  refine .inr ⟨g, 0, rfl, row_mk fun j hj => ?_⟩
  obtain rfl : j = 0 := by simp at hj; omega
  refine ⟨q, c, ⟨?_, ?_, ?_, ?_⟩, h⟩
  all_goals (rw [Lib.cell_of_heap hN]; rfl)
theorem conv_all {w : World} {B : Nat} {v : Value} {ys : List UInt8} (h : w.ownsRow B 5 1 v ys.length (sCells ys)) : ∀ w', Below w.heap.size w w' → (convert 22 9 v).run Tryd.prog w' = .ok (.string (bs ys)) w' :=
  fun w' hb => convert_own (h.kept (below_grown hb none) (by cases v.ownBlock <;> simp))
theorem held_swap {P : Program} {md : Region.Mode} {ops : Array Oper} {Q : Exit → Act → World → Prop} {S S' : World → Prop} (h : ∀ w, S' w → S w) : ∀ (fuel : Nat) (listed : Array Bool) (a : Act) (w : World),
    wpAnyH P md ops Q S' fuel listed a w → wpAnyH P md ops Q S fuel listed a w
  | 0, _, _, _, hh => hh
  | fuel + 1, _, _, _, hh => ⟨hh.1, fun i hi => wpOp_mono (fun _ _ hk => ⟨h _ hk.1, held_swap h fuel _ _ _ hk.2⟩) (hh.2 i hi)⟩
theorem load_box {W : World} {g : Nat} {r : Rep} {q : Option Addr} {c : Nat} (hN : W.heap[g]? = some (.cells #[.int .i64 r.kind, .string (bs r.str), .int .i64 r.num, .slice q r.kids.length c] 26 (0, 0))) :
    ∀ w', Below W.heap.size W w' → w'.cell? ⟨g, 0, none⟩ = some (.int .i64 r.kind) ∧ w'.cell? ⟨g, 1, none⟩ = some (.string (bs r.str)) ∧ w'.cell? ⟨g, 2, none⟩ = some (.int .i64 r.num) ∧ w'.cell? ⟨g, 3, none⟩ = some (.slice q r.kids.length c) := fun _ hb =>
  cells4 ((hb.block g (Array.getElem?_eq_some_iff.1 hN).1).trans hN)
theorem bs_take (l : List UInt8) (k : Nat) : (bs l).extract 0 k = bs (l.take k) := by
  apply ByteArray.ext
  apply Array.ext'
  simp [bs]
theorem write_at (r : Rep) (g : Nat) (W : World) (h : SliceIn W [r] (some ⟨g, 0, none⟩)) (hs : Short r) (hr : right 4 r = true) (hT : Tens W) (hlen : (enc r).length ≤ 1099511627776) :
    Calls Tryd.prog 17 #[.slice (some ⟨g, 0, none⟩) 1 1] W (Fresh W (enc r)) := by
  have e : written [r] = enc r := by simp [written, hr]
  have := write_any [r] _ 1 W h (by simp [ShortL, hs]) hT (by simp) (by rw [e]; exact hlen)
  rw [e] at this
  exact this

set_option maxRecDepth 20000 in
set_option maxHeartbeats 4000000 in
theorem apart_on (a b : Rep) (p q : Option Addr) (c d : Nat) (w : World) (ha : RepIn w a p c) (hb : RepIn w b q d) (hT : Tens w) (h1 : size 9 a ≤ 300) (h2 : size 9 b ≤ 300) (h3 : right 4 a = true) (h4 : right 4 b = true) :
    Calls Tryd.prog 5 #[.agg (repCs a p c), .agg (repCs b q d)] w fun e w' => e = .returned (.bool true) ∧ Below w.heap.size w w' := by
  have KA := Lib.hid (show ∀ W, Below w.heap.size w W → _ from fun W h => awake_true W (hT.on h))
  have KSa := Lib.hid (show ∀ W, Below w.heap.size w W → _ from fun W hw => refsize_any 9 (by omega) a p c W (RepIn.below hw _ ha))
  have KSb := Lib.hid (show ∀ W, Below w.heap.size w W → _ from fun W hw => refsize_any 9 (by omega) b q d W (RepIn.below hw _ hb))
  have KRa := Lib.hid (show ∀ W, Below w.heap.size w W → _ from fun W hw => refright_any 4 (by omega) a p c W (RepIn.below hw _ ha))
  have KRb := Lib.hid (show ∀ W, Below w.heap.size w W → _ from fun W hw => refright_any 4 (by omega) b q d W (RepIn.below hw _ hb))
  have hap := enc_apart h3 h4 (min (enc a).length (enc b).length) rfl
  have la := enc_len 9 a p c ha h1
  have lb := enc_len 9 b q d hb h2
  have HWa := Lib.hid (show ∀ W g, Below w.heap.size w W → SliceIn W [a] (some ⟨g, 0, none⟩) → _ from fun W g hw hs => write_at a g W hs (short_of 9 a h1) h3 (hT.on hw) (by omega))
  have HWb := Lib.hid (show ∀ W g, Below w.heap.size w W → SliceIn W [b] (some ⟨g, 0, none⟩) → _ from fun W g hw hs => write_at b g W hs (short_of 9 b h2) h4 (hT.on hw) (by omega))
  have KSm := Lib.hid (show ∀ W, Below w.heap.size w W → _ from fun W hw => refsame_any a b p q c d W (RepIn.below hw _ ha) (RepIn.below hw _ hb))
  have HRa := Lib.hid ha
  have HRb := Lib.hid hb
  rw [h3] at KRa
  rw [h4] at KRb
  have la2 : (enc a).length ≤ 630000 := by omega
  have lb2 : (enc b).length ≤ 630000 := by omega
  clear la lb ha hb hT h3 h4
  unfold repCs at KSa KSb KRa KRb KSm
  unfold repCs
  have sa : decide ((300 : Int) < ((size 9 a : Nat) : Int)) = false := decide_eq_false (by omega)
  generalize size 9 a = na at *
  have sb : decide ((300 : Int) < ((size 9 b : Nat) : Int)) = false := decide_eq_false (by omega)
  generalize size 9 b = nb at *
  have HAP := Lib.hid hap
  clear hap h1 h2
  generalize same a b = z at *
  generalize hEa : enc a = xa at *
  generalize hEb : enc b = xb at *
  clear hEa hEb
  go_enter Tryd.func5, Tryd.ntmps5
  go_wp2_with fail
  refine (KA.out _ (below2 (Below.refl _ _))).mono ?_
  rintro e w1 ⟨rfl, hb1⟩
  have hB1 := hb1
  obtain ⟨c01, c11, c21, c31⟩ := cells4 (boxA hB1)
  go_wp2_with fail
  refine (KSa.out _ (below2 (hB1))).mono ?_
  rintro e w2 ⟨rfl, hb2⟩
  have hB2 := bT (hB1) hb2
  obtain ⟨c02, c12, c22, c32⟩ := cells4 (boxB hB2)
  clear c01 c11 c21 c31
  go_wp2_with fail
  refine (KSb.out _ (below2 (hB2))).mono ?_
  rintro e w3 ⟨rfl, hb3⟩
  have hB3 := bT (hB2) hb3
  obtain ⟨c03, c13, c23, c33⟩ := cells4 (boxA hB3)
  clear c02 c12 c22 c32
  go_wp2_with fail
  refine (KRa.out _ (below2 (hB3))).mono ?_
  rintro e w4 ⟨rfl, hb4⟩
  have hB4 := bT (hB3) hb4
  obtain ⟨c04, c14, c24, c34⟩ := cells4 (boxB hB4)
  clear c03 c13 c23 c33
  go_wp2_with fail
  refine (KRb.out _ (below2 (hB4))).mono ?_
  rintro e w5 ⟨rfl, hb5⟩
  have hB5 := bT (hB4) hb5
  clear c04 c14 c24 c34
  have hL5 := below2 hB5
  have lda := load_box (boxA hB5)
  have ldb := load_box (boxB hB5)
  clear hb1 hb2 hb3 hb4 hb5 hB1 hB2 hB3 hB4
  go_upto_region 3 with fail
  go_cut [5, 6] (fun x y wc => x = .string (bs xa) ∧ y = .string (bs xb) ∧ Below w5.heap.size w5 wc)
  case first =>
    refine wp_region_held_drew (S := fun w' => Below w5.heap.size w5 w') (by kernel_rfl) (bD (Below.refl _ _)) (fun hHeld => ?_)
    refine wpAnyH_take (i := 0) (v := ?_) rfl (by kernel_rfl) (by kernel_rfl) (by kernel_rfl) (fun _ _ _ h => h) (Or.inl ⟨by rfl, ?_⟩) (by assumption) ?_
    rotate_left
    · (intro w hSw; (try dsimp only at hSw); go_simp; try (with_reducible rfl))
    try simp only [Act.put, List.setIfInBounds_toArray, List.set_cons_zero, List.set_cons_succ, List.getElem_toArray, List.getElem_cons_zero]
    refine wpAnyH_take (i := 4) (v := ?_) rfl (by kernel_rfl) (by kernel_rfl) (by kernel_rfl) (fun _ _ _ h => h) (Or.inl ⟨by rfl, ?_⟩) (by assumption) ?_
    rotate_left
    · (intro w hSw; (try dsimp only at hSw); go_simp; try (with_reducible rfl))
    try simp only [Act.put, List.setIfInBounds_toArray, List.set_cons_zero, List.set_cons_succ, List.getElem_toArray, List.getElem_cons_zero, List.getElem_cons_succ]
    generalize w5.drew = v0 at hHeld ⊢
    have h5v0 := hHeld
    have hLv0 := bT hL5 h5v0
    clear lda ldb hB5
    refine held_swap (S' := fun w' => Below v0.heap.size v0 w') (fun w h => bT h5v0 h) _ _ _ _ ?_
    clear hHeld
    have hHeld : Below v0.heap.size v0 v0 := Below.refl _ _
    refine wpAnyH_ready (rs := [1, 5]) (by kernel_rfl) (by simp) ?_
    refine (AllReadyH.cons rfl (fun K hK => ?_) (AllReadyH.cons rfl (fun K hK => ?_) AllReadyH.nil))
    · go_simp
      have hNv1 := heap_alloc_new v0 (.cells #[.int .i64 a.kind, .string (bs a.str), .int .i64 a.num, .slice p a.kids.length c] 26)
      have hbv1 := bA (Below.refl v0.heap.size v0) (.cells #[.int .i64 a.kind, .string (bs a.str), .int .i64 a.num, .slice p a.kids.length c] 26)
      generalize v0.alloc (.cells #[.int .i64 a.kind, .string (bs a.str), .int .i64 a.num, .slice p a.kids.length c] 26) = v1 at hNv1 hbv1 ⊢
      have hOav1 : SliceIn v1 [a] (some ⟨v0.heap.size, 0, none⟩) := slice_new hNv1 (RepIn.below (bT hLv0 hbv1) _ (HRa.out))
      have h5v1 := bT h5v0 hbv1
      have hLv1 := bT hL5 h5v1
      refine hK.out _ _ hbv1 (fun _ => ?_)
      refine held_swap (S' := fun w' => Below v1.heap.size v1 w') (fun w h => bT hbv1 h) _ _ _ _ ?_
      clear hK K
      have hHeld : Below v1.heap.size v1 v1 := Below.refl _ _
      try simp only [Act.put, List.setIfInBounds_toArray, List.set_cons_zero, List.set_cons_succ, List.getElem_toArray, List.getElem_cons_zero, List.getElem_cons_succ]
      refine wpAnyH_ready (rs := [2, 5]) (by kernel_rfl) (by simp) ?_
      refine (AllReadyH.cons rfl (fun K hK => ?_) (AllReadyH.cons rfl (fun K hK => ?_) AllReadyH.nil))
      · go_simp
        go_at_call 17
        refine (HWa.out v1 _ hLv1 hOav1).mono ?_
        rintro e v2 ⟨uv2, rfl, hrowv2, hbv2⟩
        obtain ⟨uav2, umv2, ucv2, rfl⟩ := row_slice hrowv2
        have cvv2 := conv_all hrowv2
        have h5v2 := bT h5v1 hbv2
        have hLv2 := bT hL5 h5v2
        refine hK.out _ _ hbv2 (fun _ => ?_)
        refine held_swap (S' := fun w' => Below v2.heap.size v2 w') (fun w h => bT hbv2 h) _ _ _ _ ?_
        clear hK K
        have hHeld : Below v2.heap.size v2 v2 := Below.refl _ _
        try simp only [Act.put, List.setIfInBounds_toArray, List.set_cons_zero, List.set_cons_succ, List.getElem_toArray, List.getElem_cons_zero, List.getElem_cons_succ]
        refine wpAnyH_take (i := 3) (v := ?_) rfl (by kernel_rfl) (by kernel_rfl) (by kernel_rfl) (fun _ _ _ h => h) (Or.inl ⟨by rfl, ?_⟩) (by assumption) ?_
        rotate_left
        · (intro w hSw; (try dsimp only at hSw); go_simp; try (with_reducible rfl))
        try simp only [Act.put, List.setIfInBounds_toArray, List.set_cons_zero, List.set_cons_succ, List.getElem_toArray, List.getElem_cons_zero, List.getElem_cons_succ]
        refine wpAnyH_ready (rs := [5]) (by kernel_rfl) (by simp) ?_
        refine (AllReadyH.cons rfl (fun K hK => ?_) AllReadyH.nil)
        · go_simp
          have hNv3 := heap_alloc_new v2 (.cells #[.int .i64 b.kind, .string (bs b.str), .int .i64 b.num, .slice q b.kids.length d] 26)
          have hbv3 := bA (Below.refl v2.heap.size v2) (.cells #[.int .i64 b.kind, .string (bs b.str), .int .i64 b.num, .slice q b.kids.length d] 26)
          generalize v2.alloc (.cells #[.int .i64 b.kind, .string (bs b.str), .int .i64 b.num, .slice q b.kids.length d] 26) = v3 at hNv3 hbv3 ⊢
          have hObv3 : SliceIn v3 [b] (some ⟨v2.heap.size, 0, none⟩) := slice_new hNv3 (RepIn.below (bT hLv2 hbv3) _ (HRb.out))
          have h5v3 := bT h5v2 hbv3
          have hLv3 := bT hL5 h5v3
          refine hK.out _ _ hbv3 (fun _ => ?_)
          refine held_swap (S' := fun w' => Below v3.heap.size v3 w') (fun w h => bT hbv3 h) _ _ _ _ ?_
          clear hK K
          have hHeld : Below v3.heap.size v3 v3 := Below.refl _ _
          try simp only [Act.put, List.setIfInBounds_toArray, List.set_cons_zero, List.set_cons_succ, List.getElem_toArray, List.getElem_cons_zero, List.getElem_cons_succ]
          refine wpAnyH_ready (rs := [6]) (by kernel_rfl) (by simp) ?_
          refine (AllReadyH.cons rfl (fun K hK => ?_) AllReadyH.nil)
          · go_simp
            go_at_call 17
            refine (HWb.out v3 _ hLv3 hObv3).mono ?_
            rintro e v4 ⟨uv4, rfl, hrowv4, hbv4⟩
            obtain ⟨uav4, umv4, ucv4, rfl⟩ := row_slice hrowv4
            have cvv4 := conv_all hrowv4
            have h5v4 := bT h5v3 hbv4
            have hLv4 := bT hL5 h5v4
            refine hK.out _ _ hbv4 (fun _ => ?_)
            refine held_swap (S' := fun w' => Below v4.heap.size v4 w') (fun w h => bT hbv4 h) _ _ _ _ ?_
            clear hK K
            have hHeld : Below v4.heap.size v4 v4 := Below.refl _ _
            try simp only [Act.put, List.setIfInBounds_toArray, List.set_cons_zero, List.set_cons_succ, List.getElem_toArray, List.getElem_cons_zero, List.getElem_cons_succ]
            refine wpAnyH_take (i := 7) (v := ?_) rfl (by kernel_rfl) (by kernel_rfl) (by kernel_rfl) (fun _ _ _ h => h) (Or.inl ⟨by rfl, ?_⟩) (by assumption) ?_
            rotate_left
            · (intro w hSw; (try dsimp only at hSw); go_simp; try (with_reducible rfl))
            try simp only [Act.put, List.setIfInBounds_toArray, List.set_cons_zero, List.set_cons_succ, List.getElem_toArray, List.getElem_cons_zero, List.getElem_cons_succ]
            refine wpAnyH_take (i := 8) (v := ?_) rfl (by kernel_rfl) (by kernel_rfl) (by kernel_rfl) (fun _ _ _ h => h) (Or.inl ⟨by rfl, ?_⟩) (by assumption) ?_
            rotate_left
            · (intro w hSw; (try dsimp only at hSw); go_simp; try (with_reducible rfl))
            try simp only [Act.put, List.setIfInBounds_toArray, List.set_cons_zero, List.set_cons_succ, List.getElem_toArray, List.getElem_cons_zero, List.getElem_cons_succ]
            refine wpAnyH_take (i := 9) (v := ?_) rfl (by kernel_rfl) (by kernel_rfl) (by kernel_rfl) (fun _ _ _ h => h) (Or.inl ⟨by rfl, ?_⟩) (by assumption) ?_
            rotate_left
            · (intro w hSw; (try dsimp only at hSw); go_simp; try (with_reducible rfl))
            try simp only [Act.put, List.setIfInBounds_toArray, List.set_cons_zero, List.set_cons_succ, List.getElem_toArray, List.getElem_cons_zero, List.getElem_cons_succ]
            refine wpAnyH_done (by kernel_rfl) ?_ _
            go_wp2_with fail
            go_meet
            exact ⟨rfl, rfl, h5v4⟩
      · go_simp
        have hNv5 := heap_alloc_new v1 (.cells #[.int .i64 b.kind, .string (bs b.str), .int .i64 b.num, .slice q b.kids.length d] 26)
        have hbv5 := bA (Below.refl v1.heap.size v1) (.cells #[.int .i64 b.kind, .string (bs b.str), .int .i64 b.num, .slice q b.kids.length d] 26)
        generalize v1.alloc (.cells #[.int .i64 b.kind, .string (bs b.str), .int .i64 b.num, .slice q b.kids.length d] 26) = v5 at hNv5 hbv5 ⊢
        have hObv5 : SliceIn v5 [b] (some ⟨v1.heap.size, 0, none⟩) := slice_new hNv5 (RepIn.below (bT hLv1 hbv5) _ (HRb.out))
        have hOav5 := SliceIn.below hbv5 hOav1
        have h5v5 := bT h5v1 hbv5
        have hLv5 := bT hL5 h5v5
        refine hK.out _ _ hbv5 (fun _ => ?_)
        refine held_swap (S' := fun w' => Below v5.heap.size v5 w') (fun w h => bT hbv5 h) _ _ _ _ ?_
        clear hK K
        have hHeld : Below v5.heap.size v5 v5 := Below.refl _ _
        try simp only [Act.put, List.setIfInBounds_toArray, List.set_cons_zero, List.set_cons_succ, List.getElem_toArray, List.getElem_cons_zero, List.getElem_cons_succ]
        refine wpAnyH_ready (rs := [2]) (by kernel_rfl) (by simp) ?_
        refine (AllReadyH.cons rfl (fun K hK => ?_) AllReadyH.nil)
        · go_simp
          go_at_call 17
          refine (HWa.out v5 _ hLv5 hOav5).mono ?_
          rintro e v6 ⟨uv6, rfl, hrowv6, hbv6⟩
          obtain ⟨uav6, umv6, ucv6, rfl⟩ := row_slice hrowv6
          have cvv6 := conv_all hrowv6
          have hObv6 := SliceIn.below hbv6 hObv5
          have h5v6 := bT h5v5 hbv6
          have hLv6 := bT hL5 h5v6
          refine hK.out _ _ hbv6 (fun _ => ?_)
          refine held_swap (S' := fun w' => Below v6.heap.size v6 w') (fun w h => bT hbv6 h) _ _ _ _ ?_
          clear hK K
          have hHeld : Below v6.heap.size v6 v6 := Below.refl _ _
          try simp only [Act.put, List.setIfInBounds_toArray, List.set_cons_zero, List.set_cons_succ, List.getElem_toArray, List.getElem_cons_zero, List.getElem_cons_succ]
          refine wpAnyH_take (i := 3) (v := ?_) rfl (by kernel_rfl) (by kernel_rfl) (by kernel_rfl) (fun _ _ _ h => h) (Or.inl ⟨by rfl, ?_⟩) (by assumption) ?_
          rotate_left
          · (intro w hSw; (try dsimp only at hSw); go_simp; try (with_reducible rfl))
          try simp only [Act.put, List.setIfInBounds_toArray, List.set_cons_zero, List.set_cons_succ, List.getElem_toArray, List.getElem_cons_zero, List.getElem_cons_succ]
          refine wpAnyH_ready (rs := [6]) (by kernel_rfl) (by simp) ?_
          refine (AllReadyH.cons rfl (fun K hK => ?_) AllReadyH.nil)
          · go_simp
            go_at_call 17
            refine (HWb.out v6 _ hLv6 hObv6).mono ?_
            rintro e v7 ⟨uv7, rfl, hrowv7, hbv7⟩
            obtain ⟨uav7, umv7, ucv7, rfl⟩ := row_slice hrowv7
            have cvv7 := conv_all hrowv7
            have h5v7 := bT h5v6 hbv7
            have hLv7 := bT hL5 h5v7
            refine hK.out _ _ hbv7 (fun _ => ?_)
            refine held_swap (S' := fun w' => Below v7.heap.size v7 w') (fun w h => bT hbv7 h) _ _ _ _ ?_
            clear hK K
            have hHeld : Below v7.heap.size v7 v7 := Below.refl _ _
            try simp only [Act.put, List.setIfInBounds_toArray, List.set_cons_zero, List.set_cons_succ, List.getElem_toArray, List.getElem_cons_zero, List.getElem_cons_succ]
            refine wpAnyH_take (i := 7) (v := ?_) rfl (by kernel_rfl) (by kernel_rfl) (by kernel_rfl) (fun _ _ _ h => h) (Or.inl ⟨by rfl, ?_⟩) (by assumption) ?_
            rotate_left
            · (intro w hSw; (try dsimp only at hSw); go_simp; try (with_reducible rfl))
            try simp only [Act.put, List.setIfInBounds_toArray, List.set_cons_zero, List.set_cons_succ, List.getElem_toArray, List.getElem_cons_zero, List.getElem_cons_succ]
            refine wpAnyH_take (i := 8) (v := ?_) rfl (by kernel_rfl) (by kernel_rfl) (by kernel_rfl) (fun _ _ _ h => h) (Or.inl ⟨by rfl, ?_⟩) (by assumption) ?_
            rotate_left
            · (intro w hSw; (try dsimp only at hSw); go_simp; try (with_reducible rfl))
            try simp only [Act.put, List.setIfInBounds_toArray, List.set_cons_zero, List.set_cons_succ, List.getElem_toArray, List.getElem_cons_zero, List.getElem_cons_succ]
            refine wpAnyH_take (i := 9) (v := ?_) rfl (by kernel_rfl) (by kernel_rfl) (by kernel_rfl) (fun _ _ _ h => h) (Or.inl ⟨by rfl, ?_⟩) (by assumption) ?_
            rotate_left
            · (intro w hSw; (try dsimp only at hSw); go_simp; try (with_reducible rfl))
            try simp only [Act.put, List.setIfInBounds_toArray, List.set_cons_zero, List.set_cons_succ, List.getElem_toArray, List.getElem_cons_zero, List.getElem_cons_succ]
            refine wpAnyH_done (by kernel_rfl) ?_ _
            go_wp2_with fail
            go_meet
            exact ⟨rfl, rfl, h5v7⟩
    · go_simp
      have hNv8 := heap_alloc_new v0 (.cells #[.int .i64 b.kind, .string (bs b.str), .int .i64 b.num, .slice q b.kids.length d] 26)
      have hbv8 := bA (Below.refl v0.heap.size v0) (.cells #[.int .i64 b.kind, .string (bs b.str), .int .i64 b.num, .slice q b.kids.length d] 26)
      generalize v0.alloc (.cells #[.int .i64 b.kind, .string (bs b.str), .int .i64 b.num, .slice q b.kids.length d] 26) = v8 at hNv8 hbv8 ⊢
      have hObv8 : SliceIn v8 [b] (some ⟨v0.heap.size, 0, none⟩) := slice_new hNv8 (RepIn.below (bT hLv0 hbv8) _ (HRb.out))
      have h5v8 := bT h5v0 hbv8
      have hLv8 := bT hL5 h5v8
      refine hK.out _ _ hbv8 (fun _ => ?_)
      refine held_swap (S' := fun w' => Below v8.heap.size v8 w') (fun w h => bT hbv8 h) _ _ _ _ ?_
      clear hK K
      have hHeld : Below v8.heap.size v8 v8 := Below.refl _ _
      try simp only [Act.put, List.setIfInBounds_toArray, List.set_cons_zero, List.set_cons_succ, List.getElem_toArray, List.getElem_cons_zero, List.getElem_cons_succ]
      refine wpAnyH_ready (rs := [1]) (by kernel_rfl) (by simp) ?_
      refine (AllReadyH.cons rfl (fun K hK => ?_) AllReadyH.nil)
      · go_simp
        have hNv9 := heap_alloc_new v8 (.cells #[.int .i64 a.kind, .string (bs a.str), .int .i64 a.num, .slice p a.kids.length c] 26)
        have hbv9 := bA (Below.refl v8.heap.size v8) (.cells #[.int .i64 a.kind, .string (bs a.str), .int .i64 a.num, .slice p a.kids.length c] 26)
        generalize v8.alloc (.cells #[.int .i64 a.kind, .string (bs a.str), .int .i64 a.num, .slice p a.kids.length c] 26) = v9 at hNv9 hbv9 ⊢
        have hOav9 : SliceIn v9 [a] (some ⟨v8.heap.size, 0, none⟩) := slice_new hNv9 (RepIn.below (bT hLv8 hbv9) _ (HRa.out))
        have hObv9 := SliceIn.below hbv9 hObv8
        have h5v9 := bT h5v8 hbv9
        have hLv9 := bT hL5 h5v9
        refine hK.out _ _ hbv9 (fun _ => ?_)
        refine held_swap (S' := fun w' => Below v9.heap.size v9 w') (fun w h => bT hbv9 h) _ _ _ _ ?_
        clear hK K
        have hHeld : Below v9.heap.size v9 v9 := Below.refl _ _
        try simp only [Act.put, List.setIfInBounds_toArray, List.set_cons_zero, List.set_cons_succ, List.getElem_toArray, List.getElem_cons_zero, List.getElem_cons_succ]
        refine wpAnyH_ready (rs := [2]) (by kernel_rfl) (by simp) ?_
        refine (AllReadyH.cons rfl (fun K hK => ?_) AllReadyH.nil)
        · go_simp
          go_at_call 17
          refine (HWa.out v9 _ hLv9 hOav9).mono ?_
          rintro e v10 ⟨uv10, rfl, hrowv10, hbv10⟩
          obtain ⟨uav10, umv10, ucv10, rfl⟩ := row_slice hrowv10
          have cvv10 := conv_all hrowv10
          have hObv10 := SliceIn.below hbv10 hObv9
          have h5v10 := bT h5v9 hbv10
          have hLv10 := bT hL5 h5v10
          refine hK.out _ _ hbv10 (fun _ => ?_)
          refine held_swap (S' := fun w' => Below v10.heap.size v10 w') (fun w h => bT hbv10 h) _ _ _ _ ?_
          clear hK K
          have hHeld : Below v10.heap.size v10 v10 := Below.refl _ _
          try simp only [Act.put, List.setIfInBounds_toArray, List.set_cons_zero, List.set_cons_succ, List.getElem_toArray, List.getElem_cons_zero, List.getElem_cons_succ]
          refine wpAnyH_take (i := 3) (v := ?_) rfl (by kernel_rfl) (by kernel_rfl) (by kernel_rfl) (fun _ _ _ h => h) (Or.inl ⟨by rfl, ?_⟩) (by assumption) ?_
          rotate_left
          · (intro w hSw; (try dsimp only at hSw); go_simp; try (with_reducible rfl))
          try simp only [Act.put, List.setIfInBounds_toArray, List.set_cons_zero, List.set_cons_succ, List.getElem_toArray, List.getElem_cons_zero, List.getElem_cons_succ]
          refine wpAnyH_ready (rs := [6]) (by kernel_rfl) (by simp) ?_
          refine (AllReadyH.cons rfl (fun K hK => ?_) AllReadyH.nil)
          · go_simp
            go_at_call 17
            refine (HWb.out v10 _ hLv10 hObv10).mono ?_
            rintro e v11 ⟨uv11, rfl, hrowv11, hbv11⟩
            obtain ⟨uav11, umv11, ucv11, rfl⟩ := row_slice hrowv11
            have cvv11 := conv_all hrowv11
            have h5v11 := bT h5v10 hbv11
            have hLv11 := bT hL5 h5v11
            refine hK.out _ _ hbv11 (fun _ => ?_)
            refine held_swap (S' := fun w' => Below v11.heap.size v11 w') (fun w h => bT hbv11 h) _ _ _ _ ?_
            clear hK K
            have hHeld : Below v11.heap.size v11 v11 := Below.refl _ _
            try simp only [Act.put, List.setIfInBounds_toArray, List.set_cons_zero, List.set_cons_succ, List.getElem_toArray, List.getElem_cons_zero, List.getElem_cons_succ]
            refine wpAnyH_take (i := 7) (v := ?_) rfl (by kernel_rfl) (by kernel_rfl) (by kernel_rfl) (fun _ _ _ h => h) (Or.inl ⟨by rfl, ?_⟩) (by assumption) ?_
            rotate_left
            · (intro w hSw; (try dsimp only at hSw); go_simp; try (with_reducible rfl))
            try simp only [Act.put, List.setIfInBounds_toArray, List.set_cons_zero, List.set_cons_succ, List.getElem_toArray, List.getElem_cons_zero, List.getElem_cons_succ]
            refine wpAnyH_take (i := 8) (v := ?_) rfl (by kernel_rfl) (by kernel_rfl) (by kernel_rfl) (fun _ _ _ h => h) (Or.inl ⟨by rfl, ?_⟩) (by assumption) ?_
            rotate_left
            · (intro w hSw; (try dsimp only at hSw); go_simp; try (with_reducible rfl))
            try simp only [Act.put, List.setIfInBounds_toArray, List.set_cons_zero, List.set_cons_succ, List.getElem_toArray, List.getElem_cons_zero, List.getElem_cons_succ]
            refine wpAnyH_take (i := 9) (v := ?_) rfl (by kernel_rfl) (by kernel_rfl) (by kernel_rfl) (fun _ _ _ h => h) (Or.inl ⟨by rfl, ?_⟩) (by assumption) ?_
            rotate_left
            · (intro w hSw; (try dsimp only at hSw); go_simp; try (with_reducible rfl))
            try simp only [Act.put, List.setIfInBounds_toArray, List.set_cons_zero, List.set_cons_succ, List.getElem_toArray, List.getElem_cons_zero, List.getElem_cons_succ]
            refine wpAnyH_done (by kernel_rfl) ?_ _
            go_wp2_with fail
            go_meet
            exact ⟨rfl, rfl, h5v11⟩
  case rest =>
    obtain ⟨rfl, rfl, hb6⟩ := hcut
    have hza := bs_size xa
    have hzb := bs_size xb
    obtain ⟨k, hk⟩ : ∃ k, k = min xa.length xb.length := ⟨_, rfl⟩
    have hEA := bs_take xa k
    have hEB := bs_take xb k
    have hEQ : ((bs (xa.take k)).toList == (bs (xb.take k)).toList) = z := by
      rw [strs_eq, ← HAP.out, hk, Bool.eq_iff_iff, beq_iff_eq, decide_eq_true_iff]
    have hmin : min ((xa.length : Nat) : Int) ((xb.length : Nat) : Int) = (k : Int) := by omega
    have k1 : k ≤ xa.length := by omega
    have k2 : k ≤ xb.length := by omega
    clear hk KA KRa KRb KSa KSb HWa HWb hB5 sa sb HRa HRb HAP
    generalize bs (xa.take k) = TA at *
    generalize bs (xb.take k) = TB at *
    generalize bs xa = SA at *
    generalize bs xb = SB at *
    generalize xa.length = ma at *
    generalize xb.length = mb at *
    have KK : Hid (∀ w', Below wc.heap.size wc w' → Below wc.heap.size wc w' ∧ w'.cell? ⟨w.heap.size, 0, none⟩ = some (.int .i64 a.kind) ∧ w'.cell? ⟨w.heap.size, 1, none⟩ = some (.string (bs a.str)) ∧ w'.cell? ⟨w.heap.size, 2, none⟩ = some (.int .i64 a.num) ∧ w'.cell? ⟨w.heap.size, 3, none⟩ = some (.slice p a.kids.length c) ∧ w'.cell? ⟨w.heap.size + 1, 0, none⟩ = some (.int .i64 b.kind) ∧ w'.cell? ⟨w.heap.size + 1, 1, none⟩ = some (.string (bs b.str)) ∧ w'.cell? ⟨w.heap.size + 1, 2, none⟩ = some (.int .i64 b.num) ∧ w'.cell? ⟨w.heap.size + 1, 3, none⟩ = some (.slice q b.kids.length d)) := Lib.hid fun w' h => by
      have h5 := bT hb6 h
      obtain ⟨e0, e1, e2, e3⟩ := lda w' h5
      obtain ⟨f0, f1, f2, f3⟩ := ldb w' h5
      exact ⟨h, e0, e1, e2, e3, f0, f1, f2, f3⟩
    have hL6 := bT hL5 hb6
    clear lda ldb
    have k0 : (0 : Int) ≤ (k : Int) := by omega
    have k3 : (k : Int) ≤ (ma : Int) := by omega
    have k4 : (k : Int) ≤ (mb : Int) := by omega
    go_wp2_with fail
    go_region_held3 (fun w' => Below wc.heap.size wc w' ∧ w'.cell? ⟨w.heap.size, 0, none⟩ = some (.int .i64 a.kind) ∧ w'.cell? ⟨w.heap.size, 1, none⟩ = some (.string (bs a.str)) ∧ w'.cell? ⟨w.heap.size, 2, none⟩ = some (.int .i64 a.num) ∧ w'.cell? ⟨w.heap.size, 3, none⟩ = some (.slice p a.kids.length c) ∧ w'.cell? ⟨w.heap.size + 1, 0, none⟩ = some (.int .i64 b.kind) ∧ w'.cell? ⟨w.heap.size + 1, 1, none⟩ = some (.string (bs b.str)) ∧ w'.cell? ⟨w.heap.size + 1, 2, none⟩ = some (.int .i64 b.num) ∧ w'.cell? ⟨w.heap.size + 1, 3, none⟩ = some (.slice q b.kids.length d))
      ((first | exact KK.out _ (bD (Below.refl _ _)) | exact KK.out _ (bT (bD (Below.refl _ _)) hb9)))
      ((go_at_call 11; refine (KSm.out _ (bT hL6 (bD (Below.refl _ _)))).mono ?_; rintro e9 w9 ⟨rfl, hb9⟩))
    have hb10 := bT hL6 (bT (bD (Below.refl wc.heap.size wc)) hb9)
    clear hb9
    rename_i hHeld
    clear hHeld KK
    cases z
    all_goals
      go_wp2
      go_ret
      exact ⟨rfl, hb10⟩

theorem apart_true (a b : Rep) (p q : Option Addr) (c d : Nat) (w : World) (ha : RepIn w a p c) (hb : RepIn w b q d) (hT : Tens w) :
    Calls Tryd.prog 5 #[.agg (repCs a p c), .agg (repCs b q d)] w fun e w' => e = .returned (.bool true) ∧ Below w.heap.size w w' := by
  by_cases h1 : size 9 a ≤ 300
  · by_cases h2 : size 9 b ≤ 300
    · cases h3 : right 4 a with
      | false => exact apart_ra a b p q c d w ha hb hT h1 h2 h3
      | true =>
        cases h4 : right 4 b with
        | false => exact apart_rb a b p q c d w ha hb hT h1 h2 h3 h4
        | true => exact apart_on a b p q c d w ha hb hT h1 h2 h3 h4
    · exact apart_sb a b p q c d w ha hb hT h1 (by omega)
  · exact apart_sa a b p q c d w ha hT (by omega)
end Go.Proofs.YtkcapbjmhimceaaDoor
