/-
  What num.Parse and the reference's Parse answer: for the decimal form of a 64-bit integer that integer and true; for any other string 0 and false. Conditions: strconv's variables read as they are laid; the string has at most 2^48 bytes (the reference: any).
-/
import Derived.Test.YtcikelcecfapcaaDoorRespPrint
import Derived.Test.YtcikelcecfapcaaDoorRespTake0
namespace Go.Proofs.YtcikelcecfapcaaDoor
open Go.RowKit Go.Sort

/-- What the rows list of strconv, as the walks need it. -/
structure Errs (w : World) : Prop where
  tab : Tens w
  syn : ∃ tp p, w.var? Tryd.prog "strconv.ErrSyntax" = some #[.iface tp p]
  ran : ∃ tp p, w.var? Tryd.prog "strconv.ErrRange" = some #[.iface tp p]
theorem gSyn : Tryd.prog.globalNamed "strconv.ErrSyntax" = some 3 := by kernel_rfl
theorem gRan : Tryd.prog.globalNamed "strconv.ErrRange" = some 4 := by kernel_rfl
theorem Errs.on {w w' : World} (h : Errs w) (hb : Below w.heap.size w w') : Errs w' := by
  obtain ⟨h1, ⟨t2, p2, h2⟩, ⟨t3, p3, h3⟩⟩ := h
  exact ⟨h1.on hb, ⟨t2, p2, var?_below hb gSyn (var_lt gSyn h2) h2⟩, ⟨t3, p3, var?_below hb gRan (var_lt gRan h3) h3⟩⟩

theorem bytesWorld_on {w w' : World} (h : w' = w ∨ ∃ t, w' = Lib.bytesWorld w 5 t) : Below w.heap.size w w' := by
  rcases h with rfl | ⟨t, rfl⟩
  · exact Below.refl _ _
  · exact Lib.bytesWorld_below _ _ _

theorem atoi_call (s : ByteArray) (v : Int) (hs : s.size ≤ 281474976710656) (h : Lib.atoiAll s.data.toList = .ok v) (w : World) :
    Calls Tryd.prog 67 #[.string s] w fun e w' => e = .returned (.tuple #[.int .i64 v, .nilIface]) ∧ Below w.heap.size w w' :=
  (Tryd.strconv_Atoi_ok s (by omega) v h w).mono fun _ _ ⟨he, hw⟩ => ⟨he, bytesWorld_on hw⟩

/-- An error: whatever number stands beside it. -/
def AtoiErr (w : World) (e : Ending) (w' : World) : Prop := ∃ (x : Int) (N : Nat), e = .returned (.tuple #[.int .i64 x, .iface 137 (.pointer (some ⟨N, 0, none⟩))]) ∧ Below w.heap.size w w'

theorem atoi_err (s : ByteArray) (hs : s.size ≤ 281474976710656) (h : ∀ v, Lib.atoiAll s.data.toList ≠ .ok v) (w : World) (hL : Errs w) :
    Calls Tryd.prog 67 #[.string s] w (AtoiErr w) := by
  obtain ⟨_, ⟨t2, p2, h2⟩, ⟨t3, p3, h3⟩⟩ := hL
  rcases hc : Lib.atoiAll s.data.toList with v | _ | _
  · exact absurd hc (h v)
  · exact (Any.strconv_Atoi_syntax_var Tryd.laysC172 s hs hc t2 p2 w h2).mono fun _ _ ⟨N, he, _, _, hb⟩ => ⟨_, N, he, hb⟩
  · exact (Tryd.strconv_Atoi_range_var s hs hc t3 p3 w h3).mono fun _ _ ⟨N, he, _, _, hb⟩ => ⟨_, N, he, hb⟩

theorem numText_list (n : Int) : (numText n).data.toList = Lib.itoa n := rfl
theorem numText_inj {a b : Int} (ha : Fits a) (hb : Fits b) (h : numText a = numText b) : a = b :=
  Num.itoa_inj ha.1 ha.2 hb.1 hb.2 (by rw [← numText_list, ← numText_list, h])
theorem str_ne {a b : ByteArray} (h : a ≠ b) : (a.toList == b.toList) = false := by
  rw [beq_eq_false_iff_ne, ByteArray.toList_eq, ByteArray.toList_eq]
  exact fun e => h (Go.WideShapes.bytes_inj e)
theorem numText_size (n : Int) (hn : Fits n) : (numText n).size ≤ 21 := Lib.itoa_length_le n hn.1 hn.2

set_option maxHeartbeats 400000 in
theorem parse_yes (v : Int) (hv : Fits v) (w : World) (hL : Errs w) :
    Calls Tryd.prog 55 #[.string (numText v)] w fun e w' => e = .returned (.tuple #[.int .i64 v, .bool true]) ∧ Below w.heap.size w w' := by
  have H := Lib.hid (Num.atoi_itoa v hv.1 hv.2)
  have hs := numText_size v hv
  go_enter Tryd.func55, Tryd.ntmps55
  go_wp2_with fail
  refine (atoi_call _ v (by omega) H.out _).mono ?_
  rintro e w1 ⟨rfl, hb1⟩
  have hL1 := hL.on hb1
  go_wp2_with fail
  refine (print_any v hv _ hL1.tab).mono ?_
  rintro e w2 ⟨rfl, hb2⟩
  go_wp2
  go_ret2
  exact ⟨rfl, hb1.trans (hb2.mono hb1.size)⟩

set_option maxHeartbeats 400000 in
theorem parse_other (s : ByteArray) (v : Int) (hv : Fits v) (hs : s.size ≤ 281474976710656) (h : Lib.atoiAll s.data.toList = .ok v) (hne : ((numText v).toList == s.toList) = false) (w : World) (hL : Errs w) :
    Calls Tryd.prog 55 #[.string s] w fun e w' => e = .returned (.tuple #[.int .i64 0, .bool false]) ∧ Below w.heap.size w w' := by
  have H := Lib.hid h
  clear h
  go_enter Tryd.func55, Tryd.ntmps55
  go_wp2_with fail
  refine (atoi_call s v hs H.out _).mono ?_
  rintro e w1 ⟨rfl, hb1⟩
  have hL1 := hL.on hb1
  go_wp2_with fail
  refine (print_any v hv _ hL1.tab).mono ?_
  rintro e w2 ⟨rfl, hb2⟩
  go_wp2
  go_ret2
  exact ⟨rfl, hb1.trans (hb2.mono hb1.size)⟩

set_option maxHeartbeats 400000 in
theorem parse_err (s : ByteArray) (hs : s.size ≤ 281474976710656) (h : ∀ v, Lib.atoiAll s.data.toList ≠ .ok v) (w : World) (hL : Errs w) :
    Calls Tryd.prog 55 #[.string s] w fun e w' => e = .returned (.tuple #[.int .i64 0, .bool false]) ∧ Below w.heap.size w w' := by
  have H := Lib.hid h
  clear h
  go_enter Tryd.func55, Tryd.ntmps55
  go_wp2_with fail
  refine (atoi_err s hs H.out _ hL).mono ?_
  rintro e w1 ⟨x, N, rfl, hb1⟩
  go_wp2
  go_ret2
  exact ⟨rfl, hb1⟩

/-- num.Parse AT A STRING THAT IS NO DECIMAL FORM. -/
theorem parse_no (s : ByteArray) (hs : s.size ≤ 281474976710656) (hno : ∀ v, Fits v → numText v ≠ s) (w : World) (hL : Errs w) :
    Calls Tryd.prog 55 #[.string s] w fun e w' => e = .returned (.tuple #[.int .i64 0, .bool false]) ∧ Below w.heap.size w w' := by
  rcases hc : Lib.atoiAll s.data.toList with v | _ | _
  · exact parse_other s v (Lib.atoiAll_bounds hc) hs hc (str_ne (hno v (Lib.atoiAll_bounds hc))) w hL
  · exact parse_err s hs (fun v h => by rw [hc] at h; cases h) w hL
  · exact parse_err s hs (fun v h => by rw [hc] at h; cases h) w hL

/-- A number that a uint64 holds. -/
def InU (x : Int) : Prop := 0 ≤ x ∧ x ≤ 18446744073709551615
theorem inU_wrap (x : Int) : InU (IntKind.u64.wrap x) := by
  have e : IntKind.u64.wrap x = x % 18446744073709551616 := by simp [IntKind.wrap, IntKind.bits, IntKind.signed]
  unfold InU
  rw [e]; omega

theorem fits_wrap64 (x : Int) : Fits (wrap64 x) := by unfold Fits wrap64; omega

set_option maxHeartbeats 1600000 in
theorem refparse_no (s : ByteArray) (hs : s.size ≤ 281474976710656) (hno : ∀ v, Fits v → ((numText v).toList == s.toList) = false) (w : World) :
    Calls Tryd.prog 33 #[.string s] w fun e w' => e = .returned (.tuple #[.int .i64 0, .bool false]) ∧ Below w.heap.size w w' := by
  have HNO := Lib.hid hno
  clear hno
  by_cases h0 : s.size = 0
  · go_enter Tryd.func33, Tryd.ntmps33
    go_wp2
    go_ret2
    exact ⟨rfl, Below.refl _ _⟩
  by_cases h20 : 20 < s.size
  · go_enter Tryd.func33, Tryd.ntmps33
    go_wp2
    go_ret2
    exact ⟨rfl, Below.refl _ _⟩
  have hpos : 0 < s.size := by omega
  have hz : ((s.size : Int) == 0) = false := by rw [beq_eq_false_iff_ne]; omega
  have hd : decide (20 < (s.size : Int)) = false := by simp; omega
  by_cases h45 : s[0].toNat = 45
  · have hb45 : ((s[0].toNat : Int) == 45) = true := by rw [beq_iff_eq]; omega
    clear h45
    go_enter Tryd.func33, Tryd.ntmps33
    go_wp2
    go_loop [5, 6] (fun u i => ∃ (k : Nat) (x : Int), k ≤ s.size ∧ i = .int .i64 k ∧ u = .int .u64 x ∧ InU x) (fun _ i => s.size - (intOf i).toNat)
    case atStart => exact ⟨1, 0, by omega, rfl, rfl, by unfold InU; omega⟩
    case round =>
      obtain ⟨k, x, hk, rfl, rfl, hx⟩ := hrel
      by_cases hlt : k < s.size
      · by_cases hdig : 48 ≤ s[k].toNat ∧ s[k].toNat ≤ 57
        · obtain ⟨hd0, hd1⟩ := hdig
          go_wp2_with fail
          go_round
          case rel => exact ⟨k + 1, _, by omega, by go_num, rfl, inU_wrap _⟩
          case measure => simp [intOf]; omega
        · go_wp2_with fail
          all_goals first | (go_ret2; exact ⟨rfl, Below.refl _ _⟩) | (exfalso; omega)
      · have hq := HNO.out (wrap64 x) (fits_wrap64 _)
        have hq2 := HNO.out (wrap64 (IntKind.u64.wrap (-x))) (fits_wrap64 _)
        go_wp2_with fail
        refine (refprint_any _ (fits_wrap64 _) _).mono ?_
        rintro e w1 ⟨rfl, hb1⟩
        go_wp2
        go_ret2
        exact ⟨rfl, hb1⟩
  · have hb45 : ((s[0].toNat : Int) == 45) = false := by rw [beq_eq_false_iff_ne]; omega
    clear h45
    go_enter Tryd.func33, Tryd.ntmps33
    go_wp2
    go_loop [5, 6] (fun u i => ∃ (k : Nat) (x : Int), k ≤ s.size ∧ i = .int .i64 k ∧ u = .int .u64 x ∧ InU x) (fun _ i => s.size - (intOf i).toNat)
    case atStart => exact ⟨0, 0, by omega, rfl, rfl, by unfold InU; omega⟩
    case round =>
      obtain ⟨k, x, hk, rfl, rfl, hx⟩ := hrel
      by_cases hlt : k < s.size
      · by_cases hdig : 48 ≤ s[k].toNat ∧ s[k].toNat ≤ 57
        · obtain ⟨hd0, hd1⟩ := hdig
          go_wp2_with fail
          go_round
          case rel => exact ⟨k + 1, _, by omega, by go_num, rfl, inU_wrap _⟩
          case measure => simp [intOf]; omega
        · go_wp2_with fail
          all_goals first | (go_ret2; exact ⟨rfl, Below.refl _ _⟩) | (exfalso; omega)
      · have hq := HNO.out (wrap64 x) (fits_wrap64 _)
        have hq2 := HNO.out (wrap64 (IntKind.u64.wrap (-x))) (fits_wrap64 _)
        go_wp2_with fail
        refine (refprint_any _ (fits_wrap64 _) _).mono ?_
        rintro e w1 ⟨rfl, hb1⟩
        go_wp2
        go_ret2
        exact ⟨rfl, hb1⟩

theorem u64_step (x c y : Int) (h : y = x * 10 + (c - 48)) (h0 : 0 ≤ y) (h1 : y ≤ 18446744073709551615) : IntKind.u64.wrap (IntKind.u64.wrap (x * 10) + (c - 48)) = y := by
  have e : ∀ n, IntKind.u64.wrap n = n % 18446744073709551616 := fun n => by simp [IntKind.wrap, IntKind.bits, IntKind.signed]
  rw [e, e]; omega

/-- What the reference's loop asks of the string: from place o on it has m's digits. -/
structure Digits (s : ByteArray) (o m : Nat) : Prop where
  size : s.size = o + Lib.nDigits m
  step : ∀ (k : Nat) (h : k < s.size), o ≤ k → 48 ≤ s[k].toNat ∧ s[k].toNat ≤ 57 ∧ Num.pre m (k + 1 - o) = Num.pre m (k - o) * 10 + (s[k].toNat - 48)

theorem get_bytes {s : ByteArray} {l : List UInt8} (e : s = ⟨l.toArray⟩) (k : Nat) (h : k < s.size) (hk : k < l.length) : s[k] = l[k] := by subst e; rfl
theorem size_bytes {s : ByteArray} {l : List UInt8} (e : s = ⟨l.toArray⟩) : s.size = l.length := by subst e; show l.toArray.size = _; simp

theorem digits_pos (m : Nat) : Digits (numText m) 0 m := by
  have e := numText_nat m
  refine ⟨by rw [size_bytes e, Lib.decDigits_length]; omega, fun k h _ => ?_⟩
  have hk : k < (Lib.decDigits m).length := by rw [size_bytes e] at h; exact h
  rw [get_bytes e k h hk]
  exact Num.digit_step m k hk
theorem digits_neg (m : Nat) (hm : 0 < m) : Digits (numText (-(m : Int))) 1 m := by
  have e := numText_neg m hm
  refine ⟨by rw [size_bytes e, List.length_cons, Lib.decDigits_length]; omega, fun k h h1 => ?_⟩
  obtain ⟨j, rfl⟩ : ∃ j, k = j + 1 := ⟨k - 1, by omega⟩
  have hk : j < (Lib.decDigits m).length := by rw [size_bytes e, List.length_cons] at h; omega
  rw [get_bytes e (j + 1) h (by rw [List.length_cons]; omega)]
  exact Num.digit_step m j hk

set_option maxHeartbeats 1600000 in
theorem refparse_pos (s : ByteArray) (m : Nat) (hm : m ≤ 9223372036854775807) (hsp : s = numText m) (w : World) :
    Calls Tryd.prog 33 #[.string s] w fun e w' => e = .returned (.tuple #[.int .i64 m, .bool true]) ∧ Below w.heap.size w w' := by
  have hdg : Digits s 0 m := hsp ▸ digits_pos m
  have h1 := Lib.nDigits_pos m
  have h2 := Lib.nDigits_le20 m (by omega)
  have hsize := hdg.size
  have hpos : 0 < s.size := by omega
  have hle : s.size ≤ 20 := by omega
  have h45 := (hdg.step 0 hpos (by omega)).1
  have hq : ((numText m).toList == s.toList) = true := by rw [hsp, beq_iff_eq]
  have HS := Lib.hid hsize
  clear hsize hsp h1 h2
  have hz : ((s.size : Int) == 0) = false := by rw [beq_eq_false_iff_ne]; omega
  have hd : decide (20 < (s.size : Int)) = false := by simp; omega
  have hb45 : ((s[0].toNat : Int) == 45) = false := by rw [beq_eq_false_iff_ne]; omega
  clear h45
  go_enter Tryd.func33, Tryd.ntmps33
  go_wp2
  go_loop [5, 6] (fun u i => ∃ (k : Nat), k ≤ s.size ∧ i = .int .i64 k ∧ u = .int .u64 (Num.pre m k : Nat)) (fun _ i => s.size - (intOf i).toNat)
  case atStart => exact ⟨0, by omega, rfl, by rw [Num.pre_zero]; rfl⟩
  case round =>
    obtain ⟨k, hk, rfl, rfl⟩ := hrel
    by_cases hlt : k < s.size
    · obtain ⟨hd0, hd1, hst⟩ := hdg.step k hlt (by omega)
      have hx1 := Num.pre_le m (k + 1)
      obtain ⟨x, hx⟩ : ∃ x : Int, x = (Num.pre m k : Nat) := ⟨_, rfl⟩
      obtain ⟨y, hy⟩ : ∃ y : Int, y = (Num.pre m (k + 1) : Nat) := ⟨_, rfl⟩
      have HY : Hid (IntKind.u64.wrap (IntKind.u64.wrap (x * 10) + ((s[k].toNat : Int) - 48)) = y) := u64_step _ _ _ (by simp only [Nat.sub_zero] at hst; omega) (by omega) (by omega)
      rw [← hx]
      have HX := Lib.hid hx
      have HYY := Lib.hid hy
      clear hx hy hst hx1
      go_wp2_with fail
      go_round
      case rel => exact ⟨k + 1, by omega, by go_num, by rw [← HYY.out, ← HY.out]⟩
      case measure => simp [intOf]; omega
    · have hpre : Num.pre m k = m := Num.pre_all m k (by have := HS.out; omega)
      rw [hpre]
      clear hpre
      go_wp2_with fail
      refine (refprint_any _ ⟨by omega, by omega⟩ _).mono ?_
      rintro e w1 ⟨rfl, hb1⟩
      go_wp2
      go_ret2
      exact ⟨rfl, hb1⟩

theorem back_minus (m : Nat) (hm0 : 0 < m) (hm : m ≤ 9223372036854775808) : wrap64 (IntKind.u64.wrap (-(m : Int))) = -(m : Int) := by
  have e : ∀ n, IntKind.u64.wrap n = n % 18446744073709551616 := fun n => by simp [IntKind.wrap, IntKind.bits, IntKind.signed]
  rw [e]; unfold wrap64; omega

set_option maxHeartbeats 1600000 in
theorem refparse_neg (s : ByteArray) (m : Nat) (hm0 : 0 < m) (hm : m ≤ 9223372036854775808) (hsp : s = numText (-(m : Int))) (w : World) :
    Calls Tryd.prog 33 #[.string s] w fun e w' => e = .returned (.tuple #[.int .i64 (-(m : Int)), .bool true]) ∧ Below w.heap.size w w' := by
  have hdg : Digits s 1 m := hsp ▸ digits_neg m hm0
  have h1 := Lib.nDigits_pos m
  have h2 := Num.nDigits_le19 m (by omega)
  have hsize := hdg.size
  have hpos : 0 < s.size := by omega
  have hle : s.size ≤ 20 := by omega
  have h45 : s[0].toNat = 45 := by
    have e := hsp.trans (numText_neg m hm0)
    rw [get_bytes e 0 hpos (by simp)]
    rfl
  have hq : ((numText (wrap64 (IntKind.u64.wrap (-(m : Int))))).toList == s.toList) = true := by rw [back_minus m hm0 hm, hsp, beq_iff_eq]
  have HB := Lib.hid (back_minus m hm0 hm)
  have HS := Lib.hid hsize
  clear hsize hsp h1 h2
  have hz : ((s.size : Int) == 0) = false := by rw [beq_eq_false_iff_ne]; omega
  have hd : decide (20 < (s.size : Int)) = false := by simp; omega
  have hb45 : ((s[0].toNat : Int) == 45) = true := by rw [beq_iff_eq]; omega
  clear h45
  go_enter Tryd.func33, Tryd.ntmps33
  go_wp2
  go_loop [5, 6] (fun u i => ∃ (k : Nat), 1 ≤ k ∧ k ≤ s.size ∧ i = .int .i64 k ∧ u = .int .u64 (Num.pre m (k - 1) : Nat)) (fun _ i => s.size - (intOf i).toNat)
  case atStart => exact ⟨1, by omega, by omega, rfl, by rw [Num.pre_zero]; rfl⟩
  case round =>
    obtain ⟨k, hk0, hk, rfl, rfl⟩ := hrel
    by_cases hlt : k < s.size
    · obtain ⟨hd0, hd1, hst⟩ := hdg.step k hlt (by omega)
      have hx1 := Num.pre_le m (k + 1 - 1)
      obtain ⟨x, hx⟩ : ∃ x : Int, x = (Num.pre m (k - 1) : Nat) := ⟨_, rfl⟩
      obtain ⟨y, hy⟩ : ∃ y : Int, y = (Num.pre m (k + 1 - 1) : Nat) := ⟨_, rfl⟩
      have HY : Hid (IntKind.u64.wrap (IntKind.u64.wrap (x * 10) + ((s[k].toNat : Int) - 48)) = y) := u64_step _ _ _ (by omega) (by omega) (by omega)
      rw [← hx]
      have HX := Lib.hid hx
      have HYY := Lib.hid hy
      clear hx hy hst hx1
      go_wp2_with fail
      go_round
      case rel => exact ⟨k + 1, by omega, by omega, by go_num, by rw [← HYY.out, ← HY.out]⟩
      case measure => simp [intOf]; omega
    · have hpre : Num.pre m (k - 1) = m := Num.pre_all m (k - 1) (by have := HS.out; omega)
      rw [hpre]
      clear hpre
      go_wp2_with fail
      refine (refprint_any _ (fits_wrap64 _) _).mono ?_
      rintro e w1 ⟨rfl, hb1⟩
      go_wp2
      go_ret2
      exact ⟨by rw [HB.out]; rfl, hb1⟩

/-- THE REFERENCE's Parse AT A DECIMAL FORM. -/
theorem refparse_yes (v : Int) (hv : Fits v) (w : World) :
    Calls Tryd.prog 33 #[.string (numText v)] w fun e w' => e = .returned (.tuple #[.int .i64 v, .bool true]) ∧ Below w.heap.size w w' := by
  obtain ⟨h0, h1⟩ := hv
  by_cases hneg : v < 0
  · obtain ⟨m, rfl⟩ : ∃ m : Nat, v = -(m : Int) := ⟨v.natAbs, by omega⟩
    exact refparse_neg _ m (by omega) (by omega) rfl w
  · obtain ⟨m, rfl⟩ : ∃ m : Nat, v = m := ⟨v.toNat, by omega⟩
    exact refparse_pos _ m (by omega) rfl w

theorem bs_text (n : Int) : numText n = bs (Lib.itoa n) := rfl
theorem parseL_some {l : List UInt8} {v : Int} (h : parseL l = some v) : Fits v ∧ numText v = bs l := by
  unfold parseL at h
  rcases hc : Lib.atoiAll l with u | _ | _
  · rw [hc] at h
    simp only at h
    by_cases hu : Lib.itoa u = l
    · rw [if_pos hu] at h
      obtain rfl := Option.some.inj h
      exact ⟨Lib.atoiAll_bounds hc, by rw [bs_text, hu]⟩
    · rw [if_neg hu] at h; cases h
  · rw [hc] at h; cases h
  · rw [hc] at h; cases h
theorem parseL_none {l : List UInt8} (h : parseL l = none) : ∀ v, Fits v → numText v ≠ bs l := by
  intro v hv e
  rw [bs_text] at e
  have e := bs_inj e
  unfold parseL at h
  rw [← e, Num.atoi_itoa v hv.1 hv.2] at h
  simp at h

/-- num.Parse, of any text. -/
theorem parse_any (l : List UInt8) (hl : l.length ≤ 281474976710656) (w : World) (hL : Errs w) :
    Calls Tryd.prog 55 #[.string (bs l)] w fun e w' => e = .returned (match parseL l with | some v => .tuple #[.int .i64 v, .bool true] | none => .tuple #[.int .i64 0, .bool false]) ∧ Below w.heap.size w w' := by
  cases hp : parseL l with
  | none => exact parse_no (bs l) (by rw [bs_size]; exact hl) (parseL_none hp) w hL
  | some v =>
    obtain ⟨hv, e⟩ := parseL_some hp
    rw [← e]
    exact parse_yes v hv w hL
/-- The reference's Parse, of any text. -/
theorem refparse_any (l : List UInt8) (hl : l.length ≤ 281474976710656) (w : World) :
    Calls Tryd.prog 33 #[.string (bs l)] w fun e w' => e = .returned (match parseL l with | some v => .tuple #[.int .i64 v, .bool true] | none => .tuple #[.int .i64 0, .bool false]) ∧ Below w.heap.size w w' := by
  cases hp : parseL l with
  | none => exact refparse_no (bs l) (by rw [bs_size]; exact hl) (fun v hv => str_ne (parseL_none hp v hv)) w
  | some v =>
    obtain ⟨hv, e⟩ := parseL_some hp
    rw [← e]
    exact refparse_yes v hv w
end Go.Proofs.YtcikelcecfapcaaDoor
