/-
  The walk of the statement NumTexts: for every string and every 64-bit integer it answers true. Conditions: strconv's variables read as they are laid.
-/
import Derived.Test.YtgccdhlbepbpeaaDoorNumAwake
namespace Go.Proofs.YtgccdhlbepbpeaaDoor
open Go.RowKit

set_option maxHeartbeats 400000 in
theorem numTexts_big (s : ByteArray) (n : Int) (w : World) (hs : s.size ≤ 9223372036854775807) (hn : 200 < s.size) (hL : Laid w) :
    Calls Tryd.prog 3 #[.string s, .int .i64 n] w fun e w' => e = .returned (.bool true) ∧ Below w.heap.size w w' := by
  go_enter Tryd.func3, Tryd.ntmps3
  go_wp2_with fail
  refine (awake_any _ hL).mono ?_
  rintro e w1 ⟨rfl, hb1⟩
  go_wp2_with fail
  refine (awake_any _ (hL.on hb1)).mono ?_
  rintro e w2 ⟨rfl, hb2⟩
  go_wp2
  go_ret
  exact ⟨rfl, hb1.trans (hb2.mono hb1.size)⟩

set_option maxHeartbeats 800000 in
theorem numTexts_yes (v n : Int) (w : World) (hv : Fits v) (hn : Fits n) (hL : Laid w) :
    Calls Tryd.prog 3 #[.string (numText v), .int .i64 n] w fun e w' => e = .returned (.bool true) ∧ Below w.heap.size w w' := by
  have hsz := numText_size v hv
  go_enter Tryd.func3, Tryd.ntmps3
  go_wp2_with fail
  refine (awake_any _ hL).mono ?_
  rintro e w1 ⟨rfl, hb1⟩
  have hL1 := hL.on hb1
  go_wp2_with fail
  refine (parse_yes v hv _ hL1).mono ?_
  rintro e w2 ⟨rfl, hb2⟩
  have hL2 := hL1.on hb2
  go_wp2_with fail
  refine (refparse_yes v hv _).mono ?_
  rintro e w3 ⟨rfl, hb3⟩
  have hL3 := hL2.on hb3
  go_wp2_with fail
  refine (print_any n hn _ hL3).mono ?_
  rintro e w4 ⟨rfl, hb4⟩
  have hL4 := hL3.on hb4
  go_wp2_with fail
  refine (parse_yes n hn _ hL4).mono ?_
  rintro e w5 ⟨rfl, hb5⟩
  have hL5 := hL4.on hb5
  go_wp2_with fail
  refine (refprint_any n hn _).mono ?_
  rintro e w6 ⟨rfl, hb6⟩
  have hL6 := hL5.on hb6
  go_wp2_with fail
  refine (print_any v hv _ hL6).mono ?_
  rintro e w7 ⟨rfl, hb7⟩
  go_wp2
  go_ret
  have c2 := hb1.trans (hb2.mono hb1.size)
  have c3 := c2.trans (hb3.mono c2.size)
  have c4 := c3.trans (hb4.mono c3.size)
  have c5 := c4.trans (hb5.mono c4.size)
  have c6 := c5.trans (hb6.mono c5.size)
  exact ⟨rfl, c6.trans (hb7.mono c6.size)⟩

set_option maxHeartbeats 800000 in
theorem numTexts_no (s : ByteArray) (n : Int) (w : World) (hsz : s.size ≤ 200) (hno : ∀ v, Fits v → numText v ≠ s) (hn : Fits n) (hL : Laid w) :
    Calls Tryd.prog 3 #[.string s, .int .i64 n] w fun e w' => e = .returned (.bool true) ∧ Below w.heap.size w w' := by
  have H1 := Lib.hid hno
  have H2 := Lib.hid (fun v hv => str_ne (hno v hv))
  clear hno
  go_enter Tryd.func3, Tryd.ntmps3
  go_wp2_with fail
  refine (awake_any _ hL).mono ?_
  rintro e w1 ⟨rfl, hb1⟩
  have hL1 := hL.on hb1
  go_wp2_with fail
  refine (parse_no s (by omega) H1.out _ hL1).mono ?_
  rintro e w2 ⟨rfl, hb2⟩
  have hL2 := hL1.on hb2
  go_wp2_with fail
  refine (refparse_no s (by omega) H2.out _).mono ?_
  rintro e w3 ⟨rfl, hb3⟩
  have hL3 := hL2.on hb3
  go_wp2_with fail
  refine (print_any n hn _ hL3).mono ?_
  rintro e w4 ⟨rfl, hb4⟩
  have hL4 := hL3.on hb4
  go_wp2_with fail
  refine (parse_yes n hn _ hL4).mono ?_
  rintro e w5 ⟨rfl, hb5⟩
  have hL5 := hL4.on hb5
  go_wp2_with fail
  refine (refprint_any n hn _).mono ?_
  rintro e w6 ⟨rfl, hb6⟩
  have hL6 := hL5.on hb6
  go_wp2
  go_ret
  have c2 := hb1.trans (hb2.mono hb1.size)
  have c3 := c2.trans (hb3.mono c2.size)
  have c4 := c3.trans (hb4.mono c3.size)
  have c5 := c4.trans (hb5.mono c4.size)
  have c6 := c5.trans (hb6.mono c5.size)
  exact ⟨rfl, c6⟩

theorem numTexts_walk (s : ByteArray) (n : Int) (w : World) (hs : s.size ≤ maxLen) (hn : Fits n) (hL : Laid w) :
    Calls Tryd.prog 3 #[.string s, .int .i64 n] w fun e w' => e = .returned (.bool true) ∧ Below w.heap.size w w' := by
  by_cases hb : 200 < s.size
  · exact numTexts_big s n w (by unfold maxLen at hs; omega) hb hL
  · by_cases hv : ∃ v, Fits v ∧ numText v = s
    · obtain ⟨v, hv, rfl⟩ := hv
      exact numTexts_yes v n w hv hn hL
    · exact numTexts_no s n w (by omega) (fun v hf he => hv ⟨v, hf, he⟩) hn hL
end Go.Proofs.YtgccdhlbepbpeaaDoor
