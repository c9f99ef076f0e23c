/-
  What glob.special, glob.Plain and glob.Quote answer. Conditions: the string has at most 2^40 bytes.
-/
import Derived.Test.YtimnnldjmmdlmaaChecked
import Derived.Test.YtimnnldjmmdlmaaShelf
import Derived.Test.YtimnnldjmmdlmaaGlobPure
import Derived.WalkKit
import Derived.LoopTactic
import Derived.Below
import Derived.Lib.Hide
import Derived.IntWalk
import Derived.Maps.AppendAt
import Derived.Deep.AppendLies
import Derived.Lib.Builder
import Derived.Laws.Externs
namespace Go.Proofs.Ytimnnldjmmdlmaa
open Go.RowKit

theorem byte_eq (b : UInt8) (k : Nat) (hk : k < 256) : (((b.toNat : Int) == (k : Int)) = (b == UInt8.ofNat k)) := by
  rw [Bool.eq_iff_iff, beq_iff_eq, beq_iff_eq]
  constructor
  · intro h
    apply UInt8.toNat_inj.1
    rw [UInt8.toNat_ofNat_of_lt' (by show k < 256; omega)]
    omega
  · rintro rfl
    rw [UInt8.toNat_ofNat_of_lt' (by show k < 256; omega)]

theorem special_any (b : UInt8) (w : World) :
    Calls Try.prog 9 #[.int .u8 b.toNat] w fun e w' => e = .returned (.bool (Glob.special b)) ∧ w = w' := by
  have e1 := byte_eq b 42 (by omega)
  have e2 := byte_eq b 63 (by omega)
  have e3 := byte_eq b 91 (by omega)
  have e4 := byte_eq b 92 (by omega)
  have hs : Hid (Glob.special b = (((b.toNat : Int) == 42) || ((b.toNat : Int) == 63) || ((b.toNat : Int) == 91) || ((b.toNat : Int) == 92))) := Lib.hid (by
    unfold Glob.special
    rw [show ((b.toNat : Int) == 42) = (b == 42) from e1, show ((b.toNat : Int) == 63) = (b == 63) from e2, show ((b.toNat : Int) == 91) = (b == 91) from e3, show ((b.toNat : Int) == 92) = (b == 92) from e4])
  clear e1 e2 e3 e4
  cases h1 : ((b.toNat : Int) == 42) <;> cases h2 : ((b.toNat : Int) == 63) <;> cases h3 : ((b.toNat : Int) == 91) <;> cases h4 : ((b.toNat : Int) == 92)
  all_goals
    go_enter Try.func9, Try.ntmps9
    go_wp2
    go_ret
    refine ⟨?_, rfl⟩
    rw [hs.out, h1, h2, h3, h4]
    rfl

theorem bytes_take (s : ByteArray) (k : Nat) (h : k < s.size) : s.data.toList.take (k + 1) = s.data.toList.take k ++ [s[k]] := by
  rw [List.take_succ_eq_append_getElem (by simpa using h)]; rfl

theorem plain_snoc (l : List UInt8) (b : UInt8) : Glob.plain (l ++ [b]) = (Glob.plain l && !Glob.special b) := by simp [Glob.plain]
theorem quote_snoc (l : List UInt8) (b : UInt8) : Glob.quote (l ++ [b]) = Glob.quote l ++ Glob.quote1 b := by simp [Glob.quote]

set_option maxHeartbeats 400000 in
theorem plain_any (s : ByteArray) (w : World) (hs : s.size ≤ maxLen) :
    Calls Try.prog 8 #[.string s] w fun e w' => e = .returned (.bool (Glob.plain s.data.toList)) ∧ w = w' := by
  unfold maxLen at hs
  go_enter Try.func8, Try.ntmps8
  go_wp2
  go_loop [6] (fun i => ∃ k : Nat, k ≤ s.size ∧ i = .int .i64 k ∧ Hid (Glob.plain (s.data.toList.take k) = true)) (fun i => s.size - (intOf i).toNat)
  case atStart => exact ⟨0, Nat.zero_le _, rfl, Lib.hid (by simp [Glob.plain])⟩
  case round =>
    obtain ⟨k, hk, rfl, HK⟩ := hrel
    by_cases hlt : k < s.size
    · have HS : Hid (Glob.plain (s.data.toList.take (k + 1)) = !Glob.special s[k]) := by rw [bytes_take s k hlt, plain_snoc, HK.out]; rfl
      cases hsp : Glob.special s[k]
      · go_wp2_with fail
        refine (special_any _ _).mono ?_
        rw [hsp]
        rintro e w' ⟨rfl, rfl⟩
        go_wp2
        go_round
        case rel => exact ⟨k + 1, by omega, by go_num, Lib.hid (by rw [HS.out, hsp]; rfl)⟩
        case measure => simp [intOf]; omega
      · go_wp2_with fail
        refine (special_any _ _).mono ?_
        rw [hsp]
        rintro e w' ⟨rfl, rfl⟩
        go_wp2
        go_ret
        refine ⟨?_, rfl⟩
        have : Glob.plain s.data.toList = false := by
          rw [← List.take_append_drop (k + 1) s.data.toList]
          unfold Glob.plain
          rw [List.all_append]
          have h1 := HS.out
          rw [hsp] at h1
          unfold Glob.plain at h1
          rw [h1]
          rfl
        rw [this]
        rfl
    · go_wp2
      go_ret
      have : Glob.plain s.data.toList = true := by
        have h := HK.out
        rwa [List.take_of_length_le (by simp; omega)] at h
      exact ⟨by rw [this]; rfl, rfl⟩

-- the builder: its copyCheck and WriteByte as this program's text has them

theorem size_builder : (Try.prog.info? 30).map (·.size) = some 2 := by kernel_rfl
theorem lies_builder : liesAt Try.prog Try.prog.depth 30 (2 / Try.prog.cellsOf 30) 0 30 1 = true := by kernel_rfl
theorem info_byte : (Try.prog.info? 5).map (fun i => (i.zero, i.size, i.bytes)) = some (some (.int .u8 0), 1, 1) := by kernel_rfl

set_option maxHeartbeats 400000 in
theorem check_used (b : Nat) (w : World) (h0 : w.cell? ⟨b, 0, none⟩ = some (.pointer (some ⟨b, 0, none⟩))) :
    Calls Try.prog 15 #[.pointer (some ⟨b, 0, none⟩)] w fun e w' => e = .returned (.tuple #[]) ∧ w = w' := by
  obtain ⟨j, hj, _⟩ := Option.map_eq_some_iff.1 size_builder
  go_enter Try.func15, Try.ntmps15
  go_wp2
  rw [Lib.run_neq_ptr_same w _ Try.underlying27 hj]
  go_wp2
  go_end0
  exact ⟨rfl, rfl⟩

set_option maxHeartbeats 400000 in
theorem check_fresh (b : Nat) (w : World) (h0 : w.cell? ⟨b, 0, none⟩ = some (.pointer none)) (hsh : w.shape? b = some (30, 2)) (hfz : w.frozen? ⟨b, 0, none⟩ = false) :
    Calls Try.prog 15 #[.pointer (some ⟨b, 0, none⟩)] w fun e w' => e = .returned (.tuple #[]) ∧ w' = w.setCell ⟨b, 0, none⟩ (.pointer (some ⟨b, 0, none⟩)) := by
  obtain ⟨j, hj, hjs⟩ := Option.map_eq_some_iff.1 size_builder
  go_enter Try.func15, Try.ntmps15
  go_wp2
  rw [Lib.run_to_unsafe w ⟨b, 0, none⟩ Try.underlying27 Try.underlying49 hj (by rw [hjs]; decide) hsh (Nat.zero_lt_succ 1)]
  simp only [Result.andThen]
  rw [Oper.upon_value]
  go_wp2
  rw [run_callFunc_extern Try.func18 (by kernel_rfl) (by kernel_rfl) (by kernel_rfl) (e := Extern.AbiNoEscape.same) (by kernel_rfl)]
  rw [Lib.run_noEscape]
  simp only [Result.andThen]
  rw [Oper.upon_value]
  go_wp2
  rw [Lib.run_from_unsafe w ⟨b, 0, none⟩ Try.underlying49 Try.underlying27 hj hsh lies_builder]
  simp only [Result.andThen]
  rw [Oper.upon_value]
  go_wp2
  go_end0
  exact ⟨rfl, rfl⟩

abbrev BldAt (B b : Nat) (p : Value) (bs : List Value) (w : World) : Prop := Lib.BuilderAt 30 5 B b p bs w
abbrev IsBld (B b : Nat) (bs : List Value) (w : World) : Prop := Lib.IsBuilder 30 5 B b bs w

theorem check_any (B b : Nat) (bs : List Value) (w : World) (h : IsBld B b bs w) :
    Calls Try.prog 15 #[.pointer (some ⟨b, 0, none⟩)] w fun e w' => e = .returned (.tuple #[]) ∧ BldAt B b (.pointer (some ⟨b, 0, none⟩)) bs w' ∧ Below B w w' := by
  rcases h with h | h
  · refine (check_fresh b w h.cell0 h.shape h.frozen0).mono ?_
    rintro e w' ⟨rfl, rfl⟩
    exact ⟨rfl, h.used _, (Below.refl B w).setCell (p := ⟨b, 0, none⟩) h.1 _⟩
  · refine (check_used b w h.cell0).mono ?_
    rintro e w' ⟨rfl, rfl⟩
    exact ⟨rfl, h, Below.refl B _⟩

set_option maxHeartbeats 1000000 in
theorem write_byte (B b : Nat) (bs : List Value) (c : Int) (w : World) (h : IsBld B b bs w) (hlen : bs.length + 1 ≤ 140737488355328) (hBw : B ≤ w.heap.size) :
    Calls Try.prog 10 #[.pointer (some ⟨b, 0, none⟩), .int .u8 c] w fun e w' => e = .returned .nilIface ∧ BldAt B b (.pointer (some ⟨b, 0, none⟩)) (bs ++ [.int .u8 c]) w' ∧ Below B w w' := by
  obtain ⟨i0, hi, hz0, hz1, hz2⟩ := info_parts info_byte
  go_enter Try.func10, Try.ntmps10
  go_wp2_with (go_at_call 15; refine (check_any B b bs _ h).mono ?_)
  rintro e w1 ⟨rfl, h1, hb1⟩
  obtain ⟨hB, v, hbk, hown, hne⟩ := h1
  have c0 : w1.cell? ⟨b, 0, none⟩ = some (.pointer (some ⟨b, 0, none⟩)) := by rw [Lib.cell_of_heap hbk]; rfl
  have c1 : w1.cell? ⟨b, 1, none⟩ = some v := by rw [Lib.cell_of_heap hbk]; rfl
  have hlt : b < w1.heap.size := by
    rcases Nat.lt_or_ge b w1.heap.size with h' | h'
    · exact h'
    · simp [Array.getElem?_eq_none h'] at hbk
  go_wp2_with (at_builtin; refine wpList_append_own _ rfl _ _ 28 rfl B 5 i0 (.int .u8 0) 1 1 Try.underlying28 hi hz0 hz1 hz2 rfl (by decide) _ _ _ rfl (hown.alloc _) ⟨w1.heap.size, 0, none⟩ 1 1 [.int .u8 c] rfl rfl (cell_one_new _ _ _) (by intro u hu; simp at hu; subst hu; rfl) (by unfold maxLen; omega) (by omega) (by have := hb1.size; simp; omega) ?_)
  intro v' w2 hown' hgrow _
  have hb2 : w2.heap[b]? = some (.cells #[.pointer (some ⟨b, 0, none⟩), v] 30 (0, 0)) := by
    rw [hgrow.block b (by simp; omega) (fun e => hne e.symm), Lib.alloc_old w1 _ b hlt]
    exact hbk
  have d0 : w2.cell? ⟨b, 0, none⟩ = some (.pointer (some ⟨b, 0, none⟩)) := by rw [Lib.cell_of_heap hb2]; rfl
  have d1 : w2.cell? ⟨b, 1, none⟩ = some v := by rw [Lib.cell_of_heap hb2]; rfl
  have f1 : w2.frozen? ⟨b, 1, none⟩ = false := Lib.frozen_of_heap hb2 1
  obtain ⟨g, cap, rfl, _, _⟩ := hown'.form (by omega)
  go_wp2
  go_ret
  refine ⟨rfl, Lib.BuilderAt.put hB hb2 (bs' := bs ++ [.int .u8 c]) (by simpa using hown') (by decide), ?_⟩
  exact ((hb1.alloc (by have := hb1.size; omega) _).grown hgrow (by have := hb1.size; simp; omega) (fun k hk => (hown.lt k hk).1)).setCell (p := ⟨b, 1, none⟩) hB _

theorem quote1_len (b : UInt8) : (Glob.quote1 b).length ≤ 2 := by unfold Glob.quote1; split <;> simp
theorem quote_len (l : List UInt8) : (Glob.quote l).length ≤ 2 * l.length := by
  induction l with
  | nil => simp [Glob.quote]
  | cons b l ih => rw [Glob.quote_cons]; have := quote1_len b; simp only [List.length_append, List.length_cons]; omega

/-- The quoted text. -/
def quoted (s : ByteArray) : ByteArray := ⟨(Glob.quote s.data.toList).toArray⟩

set_option maxHeartbeats 1000000 in
theorem quote_any (s : ByteArray) (w : World) (hs : s.size ≤ 1099511627776) :
    Calls Try.prog 6 #[.string s] w fun e w' => e = .returned (.string (quoted s)) ∧ Below w.heap.size w w' := by
  go_enter Try.func6, Try.ntmps6
  go_wp2
  go_loopw [7] (fun i wr => ∃ k : Nat, k ≤ s.size ∧ i = .int .i64 k ∧ IsBld w.heap.size w.heap.size (Lib.byteCells (Glob.quote (s.data.toList.take k))) wr ∧ Below w.heap.size w wr) (fun i _ => s.size - (intOf i).toNat)
  case atStart => exact ⟨0, Nat.zero_le _, rfl, Lib.fresh_isBuilder _ _ _, (Below.refl _ _).alloc (Nat.le_refl _) _⟩
  case round =>
    obtain ⟨k, hk, rfl, HI, HB⟩ := hrel
    have hq := quote_len (s.data.toList.take k)
    have hl : (s.data.toList.take k).length ≤ k := List.length_take_le _ _
    have hbs : (Lib.byteCells (Glob.quote (s.data.toList.take k))).length ≤ 2 * k := by simp [Lib.byteCells]; omega
    have hsz := HB.size
    by_cases hlt : k < s.size
    · have HS : Hid (Glob.quote (s.data.toList.take (k + 1)) = Glob.quote (s.data.toList.take k) ++ Glob.quote1 s[k]) := by
        rw [bytes_take s k hlt, quote_snoc]; rfl
      cases hsp : Glob.special s[k]
      · go_wp2_with fail
        refine (special_any _ _).mono ?_
        rw [hsp]
        rintro e w' ⟨rfl, rfl⟩
        go_wp2_with fail
        refine (write_byte w.heap.size w.heap.size _ _ _ HI (by omega) (by omega)).mono ?_
        rintro e w1 ⟨rfl, H1, B1⟩
        go_wp2
        go_roundw
        case rel =>
          refine ⟨k + 1, by omega, by go_num, Or.inr ?_, HB.trans B1⟩
          rw [HS.out]
          unfold Glob.quote1
          rw [hsp]
          simpa [Lib.byteCells] using H1
        case measure => simp [intOf]; omega
      · go_wp2_with fail
        refine (special_any _ _).mono ?_
        rw [hsp]
        rintro e w' ⟨rfl, rfl⟩
        go_wp2_with fail
        refine (write_byte w.heap.size w.heap.size _ _ _ HI (by omega) (by omega)).mono ?_
        rintro e w1 ⟨rfl, H1, B1⟩
        have hsz1 := B1.size
        go_wp2_with fail
        refine (write_byte w.heap.size w.heap.size _ _ _ (Or.inr H1) (by simp only [List.length_append, List.length_singleton]; omega) (by omega)).mono ?_
        rintro e w2 ⟨rfl, H2, B2⟩
        go_wp2
        go_roundw
        case rel =>
          refine ⟨k + 1, by omega, by go_num, Or.inr ?_, (HB.trans B1).trans B2⟩
          rw [HS.out]
          unfold Glob.quote1
          rw [hsp]
          simpa [Lib.byteCells] using H2
        case measure => simp [intOf]; omega
    · have e : s.data.toList.take k = s.data.toList := List.take_of_length_le (by simp; omega)
      rw [e] at HI
      go_wp2_with fail
      refine (Try.Builder_String_any w.heap.size w.heap.size _ _ HI (by omega)).mono ?_
      rintro e w1 ⟨rfl, B1⟩
      go_wp2
      go_ret
      exact ⟨rfl, HB.trans B1⟩

end Go.Proofs.Ytimnnldjmmdlmaa
