/-
  The document's example.
-/
import Derived.Test.YtcikelcecfapcaaDoorRespMake
import Derived.Laws.IdiomStrings
namespace Go.Proofs.YtcikelcecfapcaaDoor
open Go.RowKit Rp

theorem convert_own {w : World} {B : Nat} {v : Value} {ys : List UInt8} (h : w.ownsRow B 5 1 v ys.length (sCells ys)) : (convert 22 9 v).run Tryd.prog w = .ok (.string (bs ys)) w := by
  rcases h.2 with ⟨rfl, h0⟩ | ⟨g, cap, cur, rfl, _, _⟩
  · rw [List.eq_nil_of_length_eq_zero h0, run_convert_bytes_string w _ _ 5 none _ _ Tryd.underlying22 Tryd.underlying5 Tryd.underlying9]
    rfl
  · exact run_convert_bytes_back (P := Tryd.prog) w 22 9 5 ⟨g, 0, none⟩ cap ys Tryd.underlying22 Tryd.underlying5 Tryd.underlying9 (fun j hj => by
      rw [Lib.add_plain, Nat.zero_add, h.cellAt j (by omega)]
      simp [sCells, List.getElem?_eq_getElem hj])

theorem itoa_one : Lib.itoa 1 = [49] := by rw [show (1 : Int) = ((1 : Nat) : Int) from rfl, itoa_nat, Lib.decDigits_one (by decide)]; rfl
theorem itoa_three : Lib.itoa 3 = [51] := by rw [show (3 : Int) = ((3 : Nat) : Int) from rfl, itoa_nat, Lib.decDigits_one (by decide)]; rfl
theorem itoa_minus : Lib.itoa (-1) = [45, 49] := by
  unfold Lib.itoa
  rw [if_pos (by decide)]
  show 45 :: Lib.decDigits 1 = _
  rw [Lib.decDigits_one (by decide)]; rfl

/-- The example's elements. -/
def three : List Rep := [.mk 3 [97] 0 [], .mk 2 [] (-1) [], .mk 4 [] 0 []]
theorem three_text : written [.mk 5 [] 0 three] = [42, 51, 13, 10, 36, 49, 13, 10, 97, 13, 10, 58, 45, 49, 13, 10, 36, 45, 49, 13, 10] := by
  have hr : right 4 (.mk 5 [] 0 three) = true := by decide
  rw [written, if_pos hr]
  simp [written, enc, encL, three, itoa_three, itoa_one, itoa_minus]

theorem three_ok : ∀ x ∈ three, Fits x.kind ∧ Fits x.num ∧ x.str.length ≤ maxLen ∧ x.kids = [] := by
  intro x hx
  simp only [three, List.mem_cons, List.not_mem_nil, or_false] at hx
  rcases hx with rfl | rfl | rfl
  all_goals exact ⟨⟨by decide, by decide⟩, ⟨by decide, by decide⟩, by simp [Rep.str, maxLen], rfl⟩

theorem three_short : Short (.mk 5 [] 0 three) := by
  simp [Short, ShortL, three]

theorem one_in {w : World} {r : Rep} {q : Option Addr} {c : Nat} (h : RepIn w r q c) : SliceIn (w.alloc (.cells (repCs r q c) 26)) [r] (some ⟨w.heap.size, 0, none⟩) := by
  refine .inr ⟨w.heap.size, 0, rfl, row_mk fun j hj => ?_⟩
  obtain rfl : j = 0 := by simp at hj; omega
  have hb := heap_alloc_new w (.cells (repCs r q c) 26)
  refine ⟨q, c, ⟨?_, ?_, ?_, ?_⟩, RepIn.below (bA (Below.refl _ _) _) _ h⟩
  all_goals (rw [Lib.cell_of_heap hb]; rfl)

theorem write_one (r : Rep) (q : Option Addr) (c : Nat) (w : World) (h : RepIn w r q c) (hs : Short r) (hT : Tens w) (hlen : (written [r]).length ≤ 1099511627776) :
    Calls Tryd.prog 18 #[.slice (some ⟨w.heap.size, 0, none⟩) 1 1] (w.alloc (.cells (repCs r q c) 26)) (Fresh (w.alloc (.cells (repCs r q c) 26)) (written [r])) :=
  write_any [r] _ 1 _ (one_in h) (by simp [ShortL, hs]) (hT.on (bA (Below.refl _ _) _)) (by simp) hlen

theorem three_at (w : World) : FlatAt (w.alloc (.cells #[.int .i64 3, .string ⟨#[97]⟩, .int .i64 0, .slice none 0 0, .int .i64 2, .string ⟨#[]⟩, .int .i64 (-1), .slice none 0 0, .int .i64 4, .string ⟨#[]⟩, .int .i64 0, .slice none 0 0] 26)) three (some ⟨w.heap.size, 0, none⟩) := by
  intro j hj
  have hb := heap_alloc_new w (.cells #[.int .i64 3, .string ⟨#[97]⟩, .int .i64 0, .slice none 0 0, .int .i64 2, .string ⟨#[]⟩, .int .i64 (-1), .slice none 0 0, .int .i64 4, .string ⟨#[]⟩, .int .i64 0, .slice none 0 0] 26)
  refine ⟨w.heap.size, 0, none, 0, rfl, ?_⟩
  match j, hj with
  | 0, _ => refine ⟨?_, ?_, ?_, ?_⟩ <;> (rw [Lib.cell_of_heap hb]; rfl)
  | 1, _ => refine ⟨?_, ?_, ?_, ?_⟩ <;> (rw [Lib.cell_of_heap hb]; rfl)
  | 2, _ => refine ⟨?_, ?_, ?_, ?_⟩ <;> (rw [Lib.cell_of_heap hb]; rfl)

set_option maxHeartbeats 1000000 in
theorem awake_true (w : World) (hT : Tens w) :
    Calls Tryd.prog 9 #[] w fun e w' => e = .returned (.bool true) ∧ Below w.heap.size w w' := by
  go_enter Tryd.func9, Tryd.ntmps9
  go_wp2_with fail
  refine (str_any _ _).mono ?_
  rintro e w1 ⟨rfl, hb1⟩
  go_wp2_with fail
  refine (int_any _ _).mono ?_
  rintro e w2 ⟨rfl, hb2⟩
  go_wp2_with fail
  refine (none_any _).mono ?_
  rintro e w3 ⟨rfl, hb3⟩
  have hB3 := bT (bT hb1 hb2) hb3
  go_wp2_with fail
  refine (list_flat three (by decide) _ 3 _ (three_at w3)).mono ?_
  rintro e w4 ⟨v4, rfl, hmade, hb4⟩
  obtain ⟨q, c, rfl, hrep⟩ := hmade.rep three_ok
  have hB4 := bT (bA hB3 _) hb4
  have HW := Lib.hid (write_one _ q c w4 hrep three_short (hT.on hB4) (by rw [three_text]; decide))
  rw [three_text] at HW
  unfold repCs at HW ⊢
  clear hmade hrep hb1 hb2 hb3 hb4
  go_wp2_with fail
  refine HW.out.mono ?_
  rintro e w5 ⟨v5, rfl, hrow, hb5⟩
  have hcv := convert_own hrow
  have hB5 := bT (bA hB4 (.cells #[.int .i64 (Rep.mk 5 [] 0 three).kind, .string (bs (Rep.mk 5 [] 0 three).str), .int .i64 (Rep.mk 5 [] 0 three).num, .slice q (Rep.mk 5 [] 0 three).kids.length c] 26)) hb5
  obtain ⟨ua, um, uc, rfl⟩ := row_slice hrow
  have hz : ((bs [42, 51, 13, 10, 36, 49, 13, 10, 97, 13, 10, 58, 45, 49, 13, 10, 36, 45, 49, 13, 10]).toList == [42, 51, 13, 10, 36, 49, 13, 10, 97, 13, 10, 58, 45, 49, 13, 10, 36, 45, 49, 13, 10]) = true := by rw [bs_toList]; exact beq_self_eq_true _
  clear hrow HW hb5
  generalize bs [42, 51, 13, 10, 36, 49, 13, 10, 97, 13, 10, 58, 45, 49, 13, 10, 36, 45, 49, 13, 10] = R at *
  go_wp2
  go_ret
  exact ⟨rfl, hB5⟩
end Go.Proofs.YtcikelcecfapcaaDoor
