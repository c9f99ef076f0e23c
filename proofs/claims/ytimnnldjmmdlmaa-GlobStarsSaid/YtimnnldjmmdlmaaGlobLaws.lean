/-
  What the layer's examples and the two laws answer: true.
-/
import Derived.Test.YtimnnldjmmdlmaaGlobMatch
import Derived.Test.YtimnnldjmmdlmaaGlobQuoteWalk
namespace Go.Proofs.Ytimnnldjmmdlmaa
open Go.RowKit

theorem match_is (p s : List UInt8) (r : Bool) (hp : p.length ≤ 1099511627776) (hs : s.length ≤ 1099511627776) (h : Glob.gmatch p s = r) (w : World) :
    Calls Try.prog 7 #[.string (bs p), .string (bs s)] w fun e w' => e = .returned (.bool r) ∧ Below w.heap.size w w' := by
  have := match_any p s hp hs w
  rwa [h] at this

theorem quote_bs (l : List UInt8) (hl : l.length ≤ 1099511627776) (w : World) :
    Calls Try.prog 6 #[.string (bs l)] w fun e w' => e = .returned (.string (bs (Glob.quote l))) ∧ Below w.heap.size w w' :=
  quote_any (bs l) w (by rw [bs_size]; exact hl)

theorem plain_bs (l : List UInt8) (hl : l.length ≤ 1099511627776) (r : Bool) (h : Glob.plain l = r) (w : World) :
    Calls Try.prog 8 #[.string (bs l)] w fun e w' => e = .returned (.bool r) ∧ w = w' := by
  have := plain_any (bs l) w (by rw [bs_size]; unfold maxLen; omega)
  rwa [list_bs, h] at this

set_option maxHeartbeats 1000000 in
theorem awake_any (w : World) :
    Calls Try.prog 5 #[] w fun e w' => e = .returned (.bool true) ∧ Below w.heap.size w w' := by
  go_enter Try.func5, Try.ntmps5
  go_wp2_with fail
  refine (match_is [104, 91, 97, 45, 99, 93, 42, 111] [104, 98, 101, 108, 108, 111] true (by simp) (by simp) Glob.awake1 _).mono ?_
  rintro e w1 ⟨rfl, B1⟩
  go_wp2_with fail
  refine (match_is [104, 91, 94, 97, 93, 111] [104, 97, 111] false (by simp) (by simp) Glob.awake2 _).mono ?_
  rintro e w2 ⟨rfl, B2⟩
  go_wp2_with fail
  refine (match_is [92, 42] [42] true (by simp) (by simp) Glob.awake3 _).mono ?_
  rintro e w3 ⟨rfl, B3⟩
  go_wp2_with fail
  refine (match_is [91] [91] true (by simp) (by simp) Glob.awake4 _).mono ?_
  rintro e w4 ⟨rfl, B4⟩
  go_wp2
  go_ret
  have s1 := B1.size
  have s2 := B2.size
  have s3 := B3.size
  exact ⟨rfl, ((B1.trans (B2.mono (by omega))).trans (B3.mono (by omega))).trans (B4.mono (by omega))⟩

set_option maxHeartbeats 1000000 in
theorem quotes_long (s t : ByteArray) (h : 300 < s.size ∨ 300 < t.size) (w : World) :
    Calls Try.prog 3 #[.string s, .string t] w fun e w' => e = .returned (.bool true) ∧ Below w.heap.size w w' := by
  by_cases h1 : 300 < s.size
  · have hd : decide (300 < (s.size : Int)) = true := by simp; omega
    clear h
    go_enter Try.func3, Try.ntmps3
    go_wp2_with fail
    refine (awake_any _).mono ?_
    rintro e w1 ⟨rfl, B1⟩
    go_wp2_with fail
    refine (awake_any _).mono ?_
    rintro e w2 ⟨rfl, B2⟩
    go_wp2
    go_ret
    exact ⟨rfl, B1.trans (B2.mono B1.size)⟩
  · have hd : decide (300 < (s.size : Int)) = false := by simp; omega
    have hd2 : decide (300 < (t.size : Int)) = true := by simp; omega
    clear h
    go_enter Try.func3, Try.ntmps3
    go_wp2_with fail
    refine (awake_any _).mono ?_
    rintro e w1 ⟨rfl, B1⟩
    go_wp2_with fail
    refine (awake_any _).mono ?_
    rintro e w2 ⟨rfl, B2⟩
    go_wp2
    go_ret
    exact ⟨rfl, B1.trans (B2.mono B1.size)⟩

set_option maxHeartbeats 1000000 in
theorem quotes_short (l m : List UInt8) (hl : l.length ≤ 300) (hm : m.length ≤ 300) (w : World) :
    Calls Try.prog 3 #[.string (bs l), .string (bs m)] w fun e w' => e = .returned (.bool true) ∧ Below w.heap.size w w' := by
  have hd : decide (300 < ((bs l).size : Int)) = false := by rw [bs_size]; simp; omega
  have hd2 : decide (300 < ((bs m).size : Int)) = false := by rw [bs_size]; simp; omega
  have hq := quote_len l
  have e1 : (bs l).toList = l := bs_toList l
  have e2 : (bs m).toList = m := bs_toList m
  have e3 : (bs (Glob.quote l)).toList = Glob.quote l := bs_toList _
  have G1 := Lib.hid (Glob.match_quoted l m)
  have G2 : Hid (Glob.gmatch (Glob.quote l) l = true) := Lib.hid ((Glob.match_quoted l l).trans (by simp))
  cases hlm : (l == m) <;> cases hp : Glob.plain l
  · rw [hlm] at G1
    go_enter Try.func3, Try.ntmps3
    go_wp2_with fail
    refine (awake_any _).mono ?_
    rintro e w1 ⟨rfl, B1⟩
    go_wp2_with fail
    refine (quote_bs l (by omega) _).mono ?_
    rintro e w2 ⟨rfl, B2⟩
    go_wp2_with fail
    refine (match_is (Glob.quote l) m _ (by omega) (by omega) G1.out _).mono ?_
    rintro e w3 ⟨rfl, B3⟩
    go_wp2_with fail
    refine (match_is (Glob.quote l) l _ (by omega) (by omega) G2.out _).mono ?_
    rintro e w4 ⟨rfl, B4⟩
    go_wp2_with fail
    refine (plain_bs l (by omega) _ hp _).mono ?_
    rintro e w5 ⟨rfl, rfl⟩
    go_wp2
    go_ret
    have s1 := B1.size
    have s2 := B2.size
    have s3 := B3.size
    have s4 := B4.size
    exact ⟨rfl, ((B1.trans (B2.mono (by omega))).trans (B3.mono (by omega))).trans (B4.mono (by omega))⟩
  · rw [hlm] at G1
    have hqe := Glob.quote_plain l hp
    have e4 : (Glob.quote l == l) = true := by rw [hqe]; simp
    have G3 := Lib.hid (hqe ▸ G1.out)
    clear hqe
    go_enter Try.func3, Try.ntmps3
    go_wp2_with fail
    refine (awake_any _).mono ?_
    rintro e w1 ⟨rfl, B1⟩
    go_wp2_with fail
    refine (quote_bs l (by omega) _).mono ?_
    rintro e w2 ⟨rfl, B2⟩
    go_wp2_with fail
    refine (match_is (Glob.quote l) m _ (by omega) (by omega) G1.out _).mono ?_
    rintro e w3 ⟨rfl, B3⟩
    go_wp2_with fail
    refine (match_is (Glob.quote l) l _ (by omega) (by omega) G2.out _).mono ?_
    rintro e w4 ⟨rfl, B4⟩
    go_wp2_with fail
    refine (plain_bs l (by omega) _ hp _).mono ?_
    rintro e w5 ⟨rfl, rfl⟩
    go_wp2_with fail
    refine (match_is l m _ (by omega) (by omega) G3.out _).mono ?_
    rintro e w6 ⟨rfl, B6⟩
    go_wp2
    go_ret
    have s1 := B1.size
    have s2 := B2.size
    have s3 := B3.size
    have s4 := B4.size
    exact ⟨rfl, (((B1.trans (B2.mono (by omega))).trans (B3.mono (by omega))).trans (B4.mono (by omega))).trans (B6.mono (by omega))⟩
  · rw [hlm] at G1
    go_enter Try.func3, Try.ntmps3
    go_wp2_with fail
    refine (awake_any _).mono ?_
    rintro e w1 ⟨rfl, B1⟩
    go_wp2_with fail
    refine (quote_bs l (by omega) _).mono ?_
    rintro e w2 ⟨rfl, B2⟩
    go_wp2_with fail
    refine (match_is (Glob.quote l) m _ (by omega) (by omega) G1.out _).mono ?_
    rintro e w3 ⟨rfl, B3⟩
    go_wp2_with fail
    refine (match_is (Glob.quote l) l _ (by omega) (by omega) G2.out _).mono ?_
    rintro e w4 ⟨rfl, B4⟩
    go_wp2_with fail
    refine (plain_bs l (by omega) _ hp _).mono ?_
    rintro e w5 ⟨rfl, rfl⟩
    go_wp2
    go_ret
    have s1 := B1.size
    have s2 := B2.size
    have s3 := B3.size
    have s4 := B4.size
    exact ⟨rfl, ((B1.trans (B2.mono (by omega))).trans (B3.mono (by omega))).trans (B4.mono (by omega))⟩
  · rw [hlm] at G1
    have hqe := Glob.quote_plain l hp
    have e4 : (Glob.quote l == l) = true := by rw [hqe]; simp
    have G3 := Lib.hid (hqe ▸ G1.out)
    clear hqe
    go_enter Try.func3, Try.ntmps3
    go_wp2_with fail
    refine (awake_any _).mono ?_
    rintro e w1 ⟨rfl, B1⟩
    go_wp2_with fail
    refine (quote_bs l (by omega) _).mono ?_
    rintro e w2 ⟨rfl, B2⟩
    go_wp2_with fail
    refine (match_is (Glob.quote l) m _ (by omega) (by omega) G1.out _).mono ?_
    rintro e w3 ⟨rfl, B3⟩
    go_wp2_with fail
    refine (match_is (Glob.quote l) l _ (by omega) (by omega) G2.out _).mono ?_
    rintro e w4 ⟨rfl, B4⟩
    go_wp2_with fail
    refine (plain_bs l (by omega) _ hp _).mono ?_
    rintro e w5 ⟨rfl, rfl⟩
    go_wp2_with fail
    refine (match_is l m _ (by omega) (by omega) G3.out _).mono ?_
    rintro e w6 ⟨rfl, B6⟩
    go_wp2
    go_ret
    have s1 := B1.size
    have s2 := B2.size
    have s3 := B3.size
    have s4 := B4.size
    exact ⟨rfl, (((B1.trans (B2.mono (by omega))).trans (B3.mono (by omega))).trans (B4.mono (by omega))).trans (B6.mono (by omega))⟩

/-- THE LAW OF QUOTED TEXTS: true, whatever the input. -/
theorem quotes_true (s t : ByteArray) (w : World) :
    Calls Try.prog 3 #[.string s, .string t] w fun e w' => e = .returned (.bool true) ∧ Below w.heap.size w w' := by
  by_cases h : 300 < s.size ∨ 300 < t.size
  · exact quotes_long s t h w
  · have := quotes_short s.data.toList t.data.toList (by simp; omega) (by simp; omega) w
    rwa [bs_list, bs_list] at this

set_option maxHeartbeats 1000000 in
theorem stars_long (p s t : ByteArray) (h : 200 < p.size ∨ 200 < s.size ∨ 200 < t.size) (w : World) :
    Calls Try.prog 4 #[.string p, .string s, .string t] w fun e w' => e = .returned (.bool true) ∧ Below w.heap.size w w' := by
  cases hp : decide (200 < (p.size : Int)) <;> cases hs : decide (200 < (s.size : Int)) <;> cases ht : decide (200 < (t.size : Int))
  · exfalso
    simp at hp hs ht
    omega
  all_goals
    clear h
    go_enter Try.func4, Try.ntmps4
    go_wp2_with fail
    refine (awake_any _).mono ?_
    rintro e w1 ⟨rfl, B1⟩
    go_wp2_with fail
    refine (awake_any _).mono ?_
    rintro e w2 ⟨rfl, B2⟩
    go_wp2
    go_ret
    exact ⟨rfl, B1.trans (B2.mono B1.size)⟩

theorem bs_join (a b : List UInt8) : bs a ++ bs b = bs (a ++ b) := by
  apply ByteArray.ext
  simp [bs]

set_option maxHeartbeats 2000000 in
theorem stars_short (p s t : List UInt8) (hp : p.length ≤ 200) (hs : s.length ≤ 200) (ht : t.length ≤ 200) (w : World) :
    Calls Try.prog 4 #[.string (bs p), .string (bs s), .string (bs t)] w fun e w' => e = .returned (.bool true) ∧ Below w.heap.size w w' := by
  have hd1 : decide (200 < ((bs p).size : Int)) = false := by rw [bs_size]; simp; omega
  have hd2 : decide (200 < ((bs s).size : Int)) = false := by rw [bs_size]; simp; omega
  have hd3 : decide (200 < ((bs t).size : Int)) = false := by rw [bs_size]; simp; omega
  have hq := quote_len p
  have G1 := Lib.hid (Glob.match_star s)
  have G2 := Lib.hid (Glob.match_stars t)
  have G3 := Lib.hid (Glob.match_around s p t)
  have G4 := Lib.hid (Glob.match_behind p t)
  have G5 := Lib.hid (Glob.match_ahead s p)
  have G6 := Lib.hid (Glob.match_any_ahead 120 p)
  have z0 : (bs (Glob.quote p)).size ≤ 400 := by rw [bs_size]; omega
  have z1 : (bs p).size ≤ 200 := by rw [bs_size]; omega
  have z2 : (bs s).size ≤ 200 := by rw [bs_size]; omega
  have z3 : (bs t).size ≤ 200 := by rw [bs_size]; omega
  have c1 : ({ data := #[42] } : ByteArray) ++ bs (Glob.quote p) = bs ([42] ++ Glob.quote p) := bs_join [42] _
  have z4 : (bs ([42] ++ Glob.quote p)).size ≤ 401 := by rw [bs_size]; simp; omega
  have c2 : bs ([42] ++ Glob.quote p) ++ ({ data := #[42] } : ByteArray) = bs ([42] ++ Glob.quote p ++ [42]) := bs_join _ [42]
  have c3 : bs s ++ bs p = bs (s ++ p) := bs_join _ _
  have z5 : (bs (s ++ p)).size ≤ 400 := by rw [bs_size]; simp; omega
  have c4 : bs (s ++ p) ++ bs t = bs (s ++ p ++ t) := bs_join _ _
  have c5 : bs (Glob.quote p) ++ ({ data := #[42] } : ByteArray) = bs (Glob.quote p ++ [42]) := bs_join _ [42]
  have c6 : bs p ++ bs t = bs (p ++ t) := bs_join _ _
  have c7 : ({ data := #[63] } : ByteArray) ++ bs (Glob.quote p) = bs ([63] ++ Glob.quote p) := bs_join [63] _
  have c8 : ({ data := #[120] } : ByteArray) ++ bs p = bs ([120] ++ p) := bs_join [120] _
  have L1 : Hid (([42] ++ Glob.quote p ++ [42]).length ≤ 1099511627776 ∧ (s ++ p ++ t).length ≤ 1099511627776) := Lib.hid ⟨by simp; omega, by simp; omega⟩
  have L2 : Hid ((Glob.quote p ++ [42]).length ≤ 1099511627776 ∧ (p ++ t).length ≤ 1099511627776) := Lib.hid ⟨by simp; omega, by simp; omega⟩
  have L3 : Hid (([42] ++ Glob.quote p).length ≤ 1099511627776 ∧ (s ++ p).length ≤ 1099511627776) := Lib.hid ⟨by simp; omega, by simp; omega⟩
  have L4 : Hid (([63] ++ Glob.quote p).length ≤ 1099511627776 ∧ ([120] ++ p).length ≤ 1099511627776) := Lib.hid ⟨by simp; omega, by simp; omega⟩
  generalize hy1 : [42] ++ Glob.quote p ++ [42] = y1 at *
  generalize hy2 : [42] ++ Glob.quote p = y2 at *
  generalize hy3 : Glob.quote p ++ [42] = y3 at *
  generalize hy4 : [63] ++ Glob.quote p = y4 at *
  generalize hy5 : [120] ++ p = y5 at *
  generalize hx1 : s ++ p ++ t = x1 at *
  generalize hx2 : s ++ p = x2 at *
  generalize hx3 : p ++ t = x3 at *
  clear hy1 hy2 hy3 hy4 hy5 hx1 hx2 hx3
  go_enter Try.func4, Try.ntmps4
  go_wp2_with fail
  refine (awake_any _).mono ?_
  rintro e w1 ⟨rfl, B1⟩
  go_wp2_with fail
  refine (match_is [42] s _ (by simp) (by omega) G1.out _).mono ?_
  rintro e w2 ⟨rfl, B2⟩
  go_wp2_with fail
  refine (match_is [42, 42] t _ (by simp) (by omega) G2.out _).mono ?_
  rintro e w3 ⟨rfl, B3⟩
  go_wp2_with fail
  refine (match_is [63, 42] [] _ (by simp) (by simp) Glob.match_one_star _).mono ?_
  rintro e w4 ⟨rfl, B4⟩
  go_wp2_with fail
  refine (quote_bs p (by omega) _).mono ?_
  rintro e w5 ⟨rfl, B5⟩
  go_wp2_with fail
  refine (match_is y1 x1 _ L1.out.1 L1.out.2 G3.out _).mono ?_
  rintro e w6 ⟨rfl, B6⟩
  go_wp2_with fail
  refine (match_is y3 x3 _ L2.out.1 L2.out.2 G4.out _).mono ?_
  rintro e w7 ⟨rfl, B7⟩
  go_wp2_with fail
  refine (match_is y2 x2 _ L3.out.1 L3.out.2 G5.out _).mono ?_
  rintro e w8 ⟨rfl, B8⟩
  go_wp2_with fail
  refine (match_is y4 y5 _ L4.out.1 L4.out.2 G6.out _).mono ?_
  rintro e w9 ⟨rfl, B9⟩
  go_wp2
  go_ret
  have s1 := B1.size
  have s2 := B2.size
  have s3 := B3.size
  have s4 := B4.size
  have s5 := B5.size
  have s6 := B6.size
  have s7 := B7.size
  have s8 := B8.size
  exact ⟨rfl, ((((((((B1.trans (B2.mono (by omega))).trans (B3.mono (by omega))).trans (B4.mono (by omega))).trans (B5.mono (by omega))).trans (B6.mono (by omega))).trans (B7.mono (by omega))).trans (B8.mono (by omega))).trans (B9.mono (by omega)))⟩

/-- THE LAW OF STARS: true, whatever the input. -/
theorem stars_true (p s t : ByteArray) (w : World) :
    Calls Try.prog 4 #[.string p, .string s, .string t] w fun e w' => e = .returned (.bool true) ∧ Below w.heap.size w w' := by
  by_cases h : 200 < p.size ∨ 200 < s.size ∨ 200 < t.size
  · exact stars_long p s t h w
  · have := stars_short p.data.toList s.data.toList t.data.toList (by simp; omega) (by simp; omega) (by simp; omega) w
    rwa [bs_list, bs_list, bs_list] at this

end Go.Proofs.Ytimnnldjmmdlmaa
