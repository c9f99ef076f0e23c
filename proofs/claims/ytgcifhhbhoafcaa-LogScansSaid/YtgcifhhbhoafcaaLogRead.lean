/-
  The record at the beginning of sectors.
-/
import Derived.Test.YtgcifhhbhoafcaaLogUnpack
namespace Go.Proofs.Ytgcifhhbhoafcaa
open Go.RowKit Go.Shelf

theorem run_str {w : World} {b o c : Nat} {l : List UInt8} (hr : w.rangeAt b o (bCells l)) : (convert 22 9 (.slice (some ⟨b, o, none⟩) l.length c)).run Try.prog w = .ok (.string (bs l)) w := by
  have := run_convert_bytes_back (P := Try.prog) w 22 9 5 ⟨b, o, none⟩ c l Try.underlying22 Try.underlying5 Try.underlying9 (fun j hj => by
    rw [Go.WideShapes.add_plain]
    exact hr j _ (by simp [bCells, List.getElem?_eq_getElem hj]))
  exact this
theorem bs_eq (a b : List UInt8) : ((bs a).toList == (bs b).toList) = decide (a = b) := by
  rw [Bool.eq_iff_iff, beq_iff_eq, decide_eq_true_iff, ByteArray.toList_eq, ByteArray.toList_eq]
  unfold bs
  simp
theorem equal_any (a b : List UInt8) (na nb ba oa ca bb ob cb : Nat) (hna : na = a.length) (hnb : nb = b.length) (w : World) (ha : w.rangeAt ba oa (bCells a)) (hb : w.rangeAt bb ob (bCells b)) :
    Calls Try.prog 67 #[.slice (some ⟨ba, oa, none⟩) na ca, .slice (some ⟨bb, ob, none⟩) nb cb] w fun e w' => e = .returned (.bool (decide (a = b))) ∧ w = w' := by
  subst hna
  subst hnb
  have h1 := run_str (c := ca) ha
  have h2 := run_str (c := cb) hb
  have h3 := bs_eq a b
  go_enter Try.func67, Try.ntmps67
  go_wp2
  go_ret
  exact ⟨rfl, rfl⟩
theorem flat_inj : ∀ (A B : List Sec), (∀ s ∈ A, s.length = 64) → (∀ s ∈ B, s.length = 64) → A.flatten = B.flatten → A = B
  | [], [], _, _, _ => rfl
  | [], b :: B, _, hB, h => by
    have h1 := congrArg List.length h
    rw [List.flatten_cons, List.length_append, hB b List.mem_cons_self, List.flatten_nil, List.length_nil] at h1
    omega
  | a :: A, [], hA, _, h => by
    have h1 := congrArg List.length h
    rw [List.flatten_cons, List.length_append, hA a List.mem_cons_self, List.flatten_nil, List.length_nil] at h1
    omega
  | a :: A, b :: B, hA, hB, h => by
    rw [List.flatten_cons, List.flatten_cons] at h
    obtain ⟨h1, h2⟩ := List.append_inj h (by rw [hA a List.mem_cons_self, hB b List.mem_cons_self])
    rw [h1, flat_inj A B (fun y hy => hA y (List.mem_cons_of_mem _ hy)) (fun y hy => hB y (List.mem_cons_of_mem _ hy)) h2]
theorem head_part (h : Sec) (rest : List Sec) (hh : h.length = 64) (i n : Nat) (hi : i + n ≤ 64) : (((h :: rest).flatten.drop i).take n) = (h.drop i).take n := by
  rw [List.flatten_cons, List.drop_append_of_le_length (by omega), List.take_append_of_le_length (by rw [List.length_drop]; omega)]
theorem rest_part (h : Sec) (rest : List Sec) (hh : h.length = 64) (hr : ∀ s ∈ rest, s.length = 64) (k : Nat) : (((h :: rest).flatten.drop 64).take (k * 64)) = (rest.take k).flatten := by
  rw [List.flatten_cons, ← hh, List.drop_left, hh]
  induction k generalizing rest with
  | zero => simp
  | succ k ih =>
    cases rest with
    | nil => simp
    | cons x rest =>
      have hx := hr x List.mem_cons_self
      rw [List.flatten_cons, List.take_append, List.take_of_length_le (by omega), show (k + 1) * 64 - x.length = k * 64 by omega, ih rest (fun y hy => hr y (List.mem_cons_of_mem _ hy)), List.take_succ_cons, List.flatten_cons]

/-- What read answers. -/
def ReadR (w : World) (Bs : List Sec) (stamp : Nat) (e : Ending) (w' : World) : Prop := ∃ v ok, e = .returned (.tuple #[v, .bool ok]) ∧ Below w.heap.size w w' ∧ (match rdRec Bs stamp with
  | none => ok = false
  | some body => ok = true ∧ ∃ g, v = .slice (some ⟨g, 0, none⟩) body.length body.length ∧ w'.heap[g]? = some (.cells (bCells body).toArray 5 (0, 0)) ∧ w.heap.size ≤ g)

set_option maxHeartbeats 2000000 in
theorem read_nil (R o : Nat) (stamp : Nat) (w : World) :
    Calls Try.prog 51 #[.slice (some ⟨R, o, none⟩) 0 0, .int .i64 stamp] w fun e w' => ReadR w [] stamp e w' := by
  go_enter Try.func51, Try.ntmps51
  go_wp2
  go_ret2
  exact ⟨_, _, rfl, Below.refl _ _, rfl⟩

set_option maxRecDepth 20000 in
set_option maxHeartbeats 4000000 in
theorem read_more (R o : Nat) (h : Sec) (rest : List Sec) (L : Nat) (hL : L = (rest.length + 1) * 64) (hSl : rest.length ≤ 15000)  (hh : h.length = 64) (h64 : ∀ s ∈ rest, s.length = 64) (stamp : Nat) (w : World) (hr : w.rangeAt R o (dCells (h :: rest))) :
    Calls Try.prog 51 #[.slice (some ⟨R, o, none⟩) L L, .int .i64 stamp] w fun e w' => ReadR w (h :: rest) stamp e w' := by
  rw [dCells_flat] at hr
  have hRl : R < w.heap.size := (by
    refine World.block_lt_of_cell? w _ (hr 0 _ (List.getElem?_eq_getElem ?_))
    rw [bCells_len, List.flatten_cons, List.length_append]
    omega)
  obtain ⟨n, hn⟩ : ∃ n, n = num ((h.drop 9).take 4) := ⟨_, rfl⟩
  have hnl : n < 4294967296 := by
    have := num_lt ((h.drop 9).take 4)
    rw [List.length_take, List.length_drop, hh] at this
    rw [hn]
    exact this
  have hLq : ((L : Int)).tdiv 64 = ((rest.length + 1 : Nat) : Int) := by rw [Int.tdiv_eq_ediv_of_nonneg (by omega)]; omega
  have d0 : decide ((L : Int) < 64) = false := decide_eq_false (by omega)
  have d0' : decide (L < 64) = false := decide_eq_false (by omega)
  have j1 : (9 : Int) ≤ (L : Int) := by omega
  have j2 : (13 : Int) ≤ (L : Int) := by omega
  have j3 : (64 : Int) ≤ (L : Int) := by omega
  have hLb : L ≤ 1000000 := by omega
  have h9 : w.rangeAt R (o + 9) (bCells ((h.drop 9).take 4)) := by
    have := in_part hr 9 4
    rwa [head_part h rest hh 9 4 (by omega)] at this
  have h4 : ((h.drop 9).take 4).length = 4 := by rw [List.length_take, List.length_drop, hh]; rfl
  have hc9 : (L = 9) = False := eq_false (by omega)
  have hnum := number_any R (o + 9) (L - 9) ((h.drop 9).take 4) (by omega) w h9
  rw [h4, ← hn] at hnum
  have HR := Lib.hid hr
  have HN := Lib.hid hn
  obtain ⟨K, hK⟩ : ∃ K, K = secs n := ⟨_, rfl⟩
  have HK := Lib.hid hK
  obtain ⟨M, hM⟩ : ∃ M, M = rest.length + 1 := ⟨_, rfl⟩
  have hsec := fun w => sectors_any n (by omega) w
  rw [← hK] at hsec
  rw [← hM] at hLq hL
  have hMb : M ≤ 15001 := by omega
  have HM := Lib.hid hM
  have HL := Lib.hid hL
  have HH4 := Lib.hid h4
  have HH := Lib.hid hh
  have HKN := Lib.hid (show K = 1 + (n + 62) / 63 from hK)
  clear hr hn hK hM hL h9 h4 hh
  have HFAIL := Lib.hid (show ∀ (w' : World) (v : Value), rdRec (h :: rest) stamp = none → Below w.heap.size w w' → ReadR w (h :: rest) stamp (.returned (.tuple #[v, .bool false])) w' from fun w' v hf hb => ⟨v, false, rfl, hb, by rw [hf]⟩)
  by_cases hbig : 1048576 < n
  · have d1 : decide ((1048576 : Int) < (n : Int)) = true := decide_eq_true (by omega)
    have d1' : decide (1048576 < n) = true := decide_eq_true hbig
    have hnone : rdRec (h :: rest) stamp = none := by
      unfold rdRec
      simp only [← HN.out]
      rw [if_pos (.inl hbig)]
    have HNO := Lib.hid hnone
    clear hnone
    go_enter Try.func51, Try.ntmps51
    go_wp2_with fail
    refine hnum.mono ?_
    rintro e w1 ⟨rfl, rfl⟩
    go_wp2
    go_ret2
    exact HFAIL.out _ _ HNO.out (Below.refl _ _)
  have d1 : decide ((1048576 : Int) < (n : Int)) = false := decide_eq_false (by omega)
  have d1' : decide (1048576 < n) = false := decide_eq_false hbig
  by_cases hfar : M < K
  · have d2 : decide ((M : Int) < (K : Int)) = true := decide_eq_true (by omega)
    have d2' : decide (M < K) = true := decide_eq_true hfar
    have hnone : rdRec (h :: rest) stamp = none := by
      unfold rdRec
      simp only [← HN.out]
      rw [if_pos (.inr (by rw [← HM.out, ← HK.out]; exact hfar))]
    have HNO := Lib.hid hnone
    clear hnone
    go_enter Try.func51, Try.ntmps51
    go_wp2_with fail
    refine hnum.mono ?_
    rintro e w1 ⟨rfl, rfl⟩
    go_wp2_with fail
    refine (hsec w).mono ?_
    rintro e w1 ⟨rfl, rfl⟩
    go_wp2
    go_ret2
    exact HFAIL.out _ _ HNO.out (Below.refl _ _)
  have d2 : decide ((M : Int) < (K : Int)) = false := decide_eq_false (by omega)
  have d2' : decide (M < K) = false := decide_eq_false hfar
  obtain ⟨k, hk⟩ : ∃ k, k = K - 1 := ⟨_, rfl⟩
  obtain ⟨X, hX⟩ : ∃ X, X = K * 64 := ⟨_, rfl⟩
  have hKI : (K : Int) * 64 = (X : Int) := by omega
  have hKw : IntKind.i64.wrap (X : Int) = (X : Int) := by rw [IntKind.wrap_i64]; have := HL.out; omega
  have i1 : (64 : Int) ≤ (X : Int) := by have := HKN.out; omega
  have i2 : (X : Int) ≤ (L : Int) := by have := HL.out; omega
  have hX64 : X - 64 = k * 64 := by omega
  have HX := Lib.hid hX
  have HKK := Lib.hid hk
  have hXb : X ≤ 1000000 := by omega
  clear hX hk
  obtain ⟨ra, hra⟩ : ∃ ra, (if L = 64 then (some ⟨R, o, none⟩ : Option Addr) else some ⟨R, o + 64, none⟩) = some ⟨R, ra, none⟩ := by
    by_cases h64e : L = 64
    · exact ⟨o, if_pos h64e⟩
    · exact ⟨o + 64, if_neg h64e⟩
  have HRA := Lib.hid hra
  go_enter Try.func51, Try.ntmps51
  go_wp2_with fail
  refine hnum.mono ?_
  rintro e w1 ⟨rfl, rfl⟩
  go_wp2_with fail
  refine (hsec w).mono ?_
  rintro e w1 ⟨rfl, rfl⟩
  go_wp2
  refine wp_region_noPanic ?_
  refine wp_region_held_drew (S := fun _ => True) (by kernel_rfl) (trivial) (fun hHeld => ?_)
  refine wpAnyH_take (i := 0) (v := ?_) rfl (by kernel_rfl) (by kernel_rfl) (by kernel_rfl) (fun _ _ _ h => h) (Or.inl ⟨by rfl, ?_⟩) (by assumption) ?_
  rotate_left
  · (intro w hSw; (try dsimp only at hSw); go_simp; try (with_reducible rfl))
  try simp only [Act.put, List.setIfInBounds_toArray, List.set_cons_zero, List.set_cons_succ, List.getElem_toArray, List.getElem_cons_zero]
  refine wpAnyH_take (i := 1) (v := ?_) rfl (by kernel_rfl) (by kernel_rfl) (by kernel_rfl) (fun _ _ _ h => h) (Or.inl ⟨by rfl, ?_⟩) (by assumption) ?_
  rotate_left
  · (intro w hSw; (try dsimp only at hSw); go_simp; try (with_reducible rfl))
  try simp only [Act.put, List.setIfInBounds_toArray, List.set_cons_zero, List.set_cons_succ, List.getElem_toArray, List.getElem_cons_zero, List.getElem_cons_succ]
  refine wpAnyH_take (i := 2) (v := ?_) rfl (by kernel_rfl) (by kernel_rfl) (by kernel_rfl) (fun _ _ _ h => h) (Or.inl ⟨by rfl, ?_⟩) (by assumption) ?_
  rotate_left
  · (intro w hSw; (try dsimp only at hSw); go_simp; try (with_reducible rfl))
  try simp only [Act.put, List.setIfInBounds_toArray, List.set_cons_zero, List.set_cons_succ, List.getElem_toArray, List.getElem_cons_zero, List.getElem_cons_succ]
  refine wpAnyH_take (i := 3) (v := ?_) rfl (by kernel_rfl) (by kernel_rfl) (by kernel_rfl) (fun _ _ _ h => h) (Or.inl ⟨by rfl, ?_⟩) (by assumption) ?_
  rotate_left
  · (intro w hSw; (try dsimp only at hSw); go_simp; try (with_reducible rfl))
  try simp only [Act.put, List.setIfInBounds_toArray, List.set_cons_zero, List.set_cons_succ, List.getElem_toArray, List.getElem_cons_zero, List.getElem_cons_succ]
  refine wpAnyH_ready (rs := [4]) (by kernel_rfl) (by simp) ?_
  refine AllReadyH.cons rfl (fun K hK => ?_) AllReadyH.nil
  go_simp
  go_at_call 30
  refine (hsec _).mono ?_
  rintro e2 w2 ⟨rfl, rfl⟩
  refine hK.out _ _ (trivial) (fun hHeld2 => ?_)
  clear hK K hHeld
  have hHeld := hHeld2
  clear hHeld2
  try simp only [Act.put, List.setIfInBounds_toArray, List.set_cons_zero, List.set_cons_succ, List.getElem_toArray, List.getElem_cons_zero, List.getElem_cons_succ]
  refine wpAnyH_take (i := 5) (v := ?_) rfl (by kernel_rfl) (by kernel_rfl) (by kernel_rfl) (fun _ _ _ h => h) (Or.inl ⟨by rfl, ?_⟩) (by assumption) ?_
  rotate_left
  · (intro w hSw; (try dsimp only at hSw); go_simp; try (with_reducible rfl))
  try simp only [Act.put, List.setIfInBounds_toArray, List.set_cons_zero, List.set_cons_succ, List.getElem_toArray, List.getElem_cons_zero, List.getElem_cons_succ]
  refine wpAnyH_take (i := 6) (v := ?_) rfl (by kernel_rfl) (by kernel_rfl) (by kernel_rfl) (fun _ _ _ h => h) (Or.inl ⟨by rfl, ?_⟩) (by assumption) ?_
  rotate_left
  · (intro w hSw; (try dsimp only at hSw); go_simp; try (with_reducible rfl))
  try simp only [Act.put, List.setIfInBounds_toArray, List.set_cons_zero, List.set_cons_succ, List.getElem_toArray, List.getElem_cons_zero, List.getElem_cons_succ]
  refine wpAnyH_take (i := 7) (v := ?_) rfl (by kernel_rfl) (by kernel_rfl) (by kernel_rfl) (fun _ _ _ h => h) (Or.inl ⟨by rfl, ?_⟩) (by assumption) ?_
  rotate_left
  · (intro w hSw; (try dsimp only at hSw); go_simp; try (with_reducible rfl))
  try simp only [Act.put, List.setIfInBounds_toArray, List.set_cons_zero, List.set_cons_succ, List.getElem_toArray, List.getElem_cons_zero, List.getElem_cons_succ]
  refine wpAnyH_take (i := 8) (v := ?_) rfl (by kernel_rfl) (by kernel_rfl) (by kernel_rfl) (fun _ _ _ h => h) (Or.inl ⟨by rfl, ?_⟩) (by assumption) ?_
  rotate_left
  · (intro w hSw; (try dsimp only at hSw); go_simp; try (with_reducible rfl))
  try simp only [Act.put, List.setIfInBounds_toArray, List.set_cons_zero, List.set_cons_succ, List.getElem_toArray, List.getElem_cons_zero, List.getElem_cons_succ]
  refine wpAnyH_done (by kernel_rfl) ?_ _
  refine NoPanic.normal ?_
  clear hHeld
  have hbd : Below w.heap.size w w.drew := bD (Below.refl _ _)
  obtain ⟨wd, hwd⟩ : ∃ wd, w.drew = wd := ⟨_, rfl⟩
  have hsd : wd.heap.size = w.heap.size := by rw [← hwd]; rfl
  rw [hwd] at hbd ⊢
  clear hwd
  have hkl : k ≤ rest.length := by have := HKK.out; have := HM.out; omega
  have hSk : (rest.take k).length = k := by rw [List.length_take]; omega
  have hk64 : ∀ s ∈ rest.take k, s.length = 64 := fun s hs => h64 s (List.mem_of_mem_take hs)
  have hrd : wd.rangeAt R o (bCells (h :: rest).flatten) := (Chg.below hbd (fun _ => False)).range HR.out (fun e => e)
  have hrest : wd.rangeAt R ra (bCells (rest.take k).flatten) := (by
    by_cases h64e : L = 64
    · have : k = 0 := by have := HKK.out; have := HM.out; have := HL.out; omega
      rw [this]
      exact fun j u hj => by simp [bCells] at hj
    · have e := HRA.out
      rw [if_neg h64e] at e
      simp only [Option.some.injEq, Addr.mk.injEq, true_and, and_true] at e
      rw [← e]
      have := in_part hrd 64 (k * 64)
      rwa [rest_part h rest HH.out h64 k] at this)
  have hu := unpack_any R ra (L - 64) (rest.take k) n (by omega) hk64 (by rw [hSk]; have := HKN.out; have := HKK.out; omega) (by rw [hSk]; omega) (by rw [hSk]; have := HL.out; have := HM.out; omega) (by omega) wd (by rw [hsd]; exact hRl) (by rw [dCells_flat]; exact hrest)
  have hbl := unpacked_len hk64 n (by rw [hSk]; have := HKN.out; have := HKK.out; omega)
  rw [hSk] at hu
  have HRDN := Lib.hid (show ∀ b, unpacked (rest.take k) n = b → rdRec (h :: rest) stamp = (if h = hdr stamp b ∧ rest.take k = packed b then some b else none) from fun b hb => by
    unfold rdRec
    simp only [← HN.out]
    rw [if_neg (by rw [← HM.out, ← HK.out]; omega), ← HK.out, ← HKK.out, hb])
  obtain ⟨body, hbody⟩ : ∃ body, unpacked (rest.take k) n = body := ⟨_, rfl⟩
  rw [hbody] at hu hbl
  have HRD := Lib.hid (HRDN.out body hbody)
  have HBL := Lib.hid hbl
  have HRE := Lib.hid hrest
  have HRDD := Lib.hid hrd
  have HBD := Lib.hid hbd
  have HK64 := Lib.hid hk64
  have HSK := Lib.hid hSk
  have HSD := Lib.hid hsd

  clear HRDN hbl hrest hrd hbd hk64 hSk hbody hsd
  go_wp2_with fail
  refine hu.mono ?_
  rintro e3 w3 ⟨rfl, hg3, hb3⟩
  have HG3 := Lib.hid hg3
  have HB3 := Lib.hid hb3
  clear hg3 hb3
  have hin3 : InAt w3 (some ⟨wd.heap.size, 0, none⟩) body := fun _ => ⟨_, _, rfl, in_block HG3.out⟩
  have hhd := header_any stamp (some ⟨wd.heap.size, 0, none⟩) n body (by rw [HBL.out]; omega) w3 hin3
  rw [HBL.out] at hhd
  clear hin3
  go_wp2_with fail
  refine hhd.mono ?_
  rintro e4 w4 ⟨rfl, hg4, hb4⟩
  have hc34 := Chg.below hb4 (fun _ => False)
  have HG4 := Lib.hid hg4
  have HG34 := Lib.hid (hc34.box HG3.out (fun e => e))
  have HR4 := Lib.hid (hc34.range ((Chg.below HB3.out (fun _ => False)).range HRDD.out (fun e => e)) (fun e => e))
  have HRE4 := Lib.hid (hc34.range ((Chg.below HB3.out (fun _ => False)).range HRE.out (fun e => e)) (fun e => e))
  have HB4 := Lib.hid (show Below w.heap.size w w4 from HBD.out.trans (by rw [← HSD.out]; exact bT HB3.out hb4))
  have hfirst : w4.rangeAt R o (bCells h) := by
    have := in_part HR4.out 0 64
    rw [head_part h rest HH.out 0 64 (by omega), List.drop_zero, List.take_of_length_le (by rw [HH.out]; exact Nat.le_refl _)] at this
    exact this
  have heq1 := equal_any h (hdr stamp body) 64 64 R o L w3.heap.size 0 64 HH.out.symm (hdr_len stamp body).symm w4 hfirst (in_block HG4.out)
  have hs34 : wd.heap.size < w4.heap.size := (Array.getElem?_eq_some_iff.1 HG34.out).1
  have HS34 := Lib.hid hs34
  clear hg4 hb4 hc34 hfirst hs34
  by_cases heq : h = hdr stamp body
  · rw [show decide (h = hdr stamp body) = true from decide_eq_true heq] at heq1
    have HEQ := Lib.hid heq
    clear heq
    have hpk := pack_any wd.heap.size 0 n body (by rw [HBL.out]; have := HKN.out; have := HKK.out; omega) (by rw [HBL.out]; exact Nat.le_refl _) (by omega) w4 HS34.out (in_block HG34.out)
    rw [HBL.out] at hpk
    go_wp2_with fail
    refine heq1.mono ?_
    rintro e5 w5 ⟨rfl, rfl⟩
    go_wp2_with fail
    refine hpk.mono ?_
    rintro e6 w6 ⟨rfl, hg6, hb6⟩
    have hg6' : w6.rangeAt w4.heap.size 0 (bCells (packed body).flatten) := by
      have := in_block (l := (packed body).flatten) (by rw [← dCells_flat]; exact hg6)
      exact this
    have heq2 := equal_any (rest.take k).flatten (packed body).flatten (k * 64) ((packed body).length * 64) R ra (L - 64) w4.heap.size 0 ((packed body).length * 64) (by rw [flat_64 _ HK64.out, HSK.out]) (by rw [flat_64 _ (packed_64 body)]) w6 ((Chg.below hb6 (fun _ => False)).range HRE4.out (fun e => e)) hg6'
    have HG6 := Lib.hid ((Chg.below hb6 (fun _ => False)).box HG34.out (fun e => e))
    have HB6 := Lib.hid (show Below w.heap.size w w6 from HB4.out.trans (hb6.mono HB4.out.size))
    clear hg6 hb6 hg6'
    by_cases hpe : rest.take k = packed body
    · rw [show decide ((rest.take k).flatten = (packed body).flatten) = true from decide_eq_true (congrArg List.flatten hpe)] at heq2
      have HYES := Lib.hid (show rdRec (h :: rest) stamp = some body by rw [HRD.out, if_pos ⟨HEQ.out, hpe⟩])
      clear hpe
      go_wp2_with fail
      refine heq2.mono ?_
      rintro e7 w7 ⟨rfl, rfl⟩
      go_wp2
      go_ret2
      refine ⟨_, _, rfl, HB6.out, ?_⟩
      rw [HYES.out]
      exact ⟨rfl, wd.heap.size, by rw [HBL.out]; rfl, HG6.out, by rw [HSD.out]; exact Nat.le_refl _⟩
    · rw [show decide ((rest.take k).flatten = (packed body).flatten) = false from decide_eq_false (fun e => hpe (flat_inj _ _ HK64.out (packed_64 body) e))] at heq2
      have HNO := Lib.hid (show rdRec (h :: rest) stamp = none by rw [HRD.out, if_neg (fun e => hpe e.2)])
      clear hpe
      go_wp2_with fail
      refine heq2.mono ?_
      rintro e7 w7 ⟨rfl, rfl⟩
      go_wp2
      go_ret2
      exact HFAIL.out _ _ HNO.out HB6.out
  · rw [show decide (h = hdr stamp body) = false from decide_eq_false heq] at heq1
    have HNO := Lib.hid (show rdRec (h :: rest) stamp = none by rw [HRD.out, if_neg (fun e => heq e.1)])
    clear heq
    go_wp2_with fail
    refine heq1.mono ?_
    rintro e5 w5 ⟨rfl, rfl⟩
    go_wp2
    go_ret2
    exact HFAIL.out _ _ HNO.out HB4.out
end Go.Proofs.Ytgcifhhbhoafcaa
