/-
  What CrcTurns answers: true.
-/
import Derived.Test.YtehdbnjkgdfgbaaCrcAwake
namespace Go.Proofs.Ytehdbnjkgdfgbaa
open Go.RowKit

theorem tmod_bound (a : Int) (m : Nat) : -(m : Int) ≤ a.tmod ((m : Int) + 1) ∧ a.tmod ((m : Int) + 1) ≤ m := by
  have h := Int.natAbs_tmod a ((m : Int) + 1)
  have h2 : a.natAbs % ((m : Int) + 1).natAbs < ((m : Int) + 1).natAbs := Nat.mod_lt _ (by omega)
  omega

theorem place_nat (M : Int) (n : Nat) (h : -(n : Int) ≤ M) : ∃ K : Nat, (M + ((n : Int) + 1)).tmod ((n : Int) + 1) = (K : Int) ∧ K ≤ n := by
  obtain ⟨q, hq⟩ : ∃ q : Nat, M + ((n : Int) + 1) = q := ⟨(M + ((n : Int) + 1)).toNat, by omega⟩
  refine ⟨q % (n + 1), ?_, by have := Nat.mod_lt q (show 0 < n + 1 by omega); omega⟩
  rw [hq, show (n : Int) + 1 = ((n + 1 : Nat) : Int) by omega, Int.ofNat_tmod]

theorem altF (f : Nat → Nat → Nat) (hf : ∀ a b, a < 256 → b < 256 → f a b < 256) (K : Nat) (ws : List Nat) (hw : Crc.Octets ws) (s0 : List Nat) (hs : Crc.Octets s0) :
    ∃ F : Nat → List Nat, F 0 = s0 ∧ (∀ m, F (m + 1) = (F m).set (K + m) (f ((F m).getD (K + m) 0) (ws.getD m 0))) ∧ (∀ m, (F m).length = s0.length) ∧ (∀ m, Crc.Octets (F m)) ∧ F 4 = Crc.alt f K ws 4 s0 :=
  ⟨fun m => Crc.alt f K ws m s0, rfl, fun _ => rfl, fun _ => Crc.alt_len _ _ _ _ _, fun m => Crc.alt_octets f hf K ws hw m s0 hs, rfl⟩

theorem owned_pos {w : World} {base : Nat} {v : Value} {n : Nat} {xs : List Value} (h : w.ownsRow base 5 1 v n xs) (hn : 0 < n) : ∃ g cap, v = .slice (some ⟨g, 0, none⟩) n cap ∧ base ≤ g ∧ g < w.heap.size ∧ n ≤ cap := by
  rcases h.2 with ⟨_, h0⟩ | ⟨g, cap, cur, hv, hb, hg, hc, _⟩
  · omega
  · exact ⟨g, cap, hv, hb, Array.getElem?_eq_some_iff.1 hg |>.1, hc⟩

theorem bcells_set (l : List Nat) (j x : Nat) : (bcells l).set j (.int .u8 (x : Int)) = bcells (l.set j x) := by simp [bcells, List.map_set]

theorem four_cells {w : World} {b : Nat} {T : TypeId} {x y z u : Nat} (h : w.heap[b]? = some (.cells #[.int .u8 x, .int .u8 y, .int .u8 z, .int .u8 u] T (0, 0))) (m : Nat) (hm : m < 4) : w.cell? ⟨b, m, none⟩ = some (.int .u8 ([x, y, z, u].getD m 0 : Nat)) := by
  rw [Lib.cell_of_heap h]
  match m, hm with
  | 0, _ => rfl
  | 1, _ => rfl
  | 2, _ => rfl
  | 3, _ => rfl

set_option maxHeartbeats 1000000 in
theorem eq_zeros (a b c d : Int) (w : World) : (Op.equalIn 10000 33 (.agg #[.int .u8 a, .int .u8 b, .int .u8 c, .int .u8 d]) (.agg #[.int .u8 0, .int .u8 0, .int .u8 0, .int .u8 0])).run Try.prog w = .ok (decide (a = 0 ∧ b = 0 ∧ c = 0 ∧ d = 0)) w := by
  have u5 := Try.underlying5
  have a5 := Try.isAgg5
  have z5 := Try.sizeOf5
  rw [show (10000 : Nat) = 9999 + 1 from rfl, Op.equalIn]
  simp only [Sem.run_bind, run_underlying Try.underlying33, Result.andThen_ok]
  simp only [Std.Legacy.Range.forIn_eq_forIn_range', Std.Legacy.Range.size, Nat.sub_zero, Nat.add_sub_cancel, Nat.div_one, List.range'_succ, List.range'_zero, List.forIn_cons, List.forIn_nil]
  go_simp
  by_cases h1 : a = 0 <;> by_cases h2 : b = 0 <;> by_cases h3 : c = 0 <;> by_cases h4 : d = 0 <;> simp [h1, h2, h3, h4]

set_option maxHeartbeats 1000000 in
theorem turns_long (p : Option Addr) (n c : Nat) (at_ : Int) (hn : 1000 < n) (x y z u : Nat) (w : World) :
    Calls Try.prog 5 #[.slice p n c, .int .i64 at_, .agg #[.int .u8 x, .int .u8 y, .int .u8 z, .int .u8 u]] w fun e w' => e = .returned (.bool true) ∧ Below w.heap.size w w' := by
  have hd : decide ((n : Int) > 1000) = true := decide_eq_true (by omega)
  have hd' : decide ((1000 : Int) < n) = true := decide_eq_true (by omega)
  go_enter Try.func5, Try.ntmps5
  go_wp2_with fail
  refine (awake_true _).mono ?_
  rintro e w1 ⟨rfl, hb1⟩
  go_wp2_with fail
  refine (awake_true _).mono ?_
  rintro e w2 ⟨rfl, hb2⟩
  go_wp2
  go_ret
  exact ⟨rfl, (((Below.refl _ w).alloc (Nat.le_refl _) _).trans (hb1.mono (by simp))).trans (hb2.mono (by have := hb1.size; simp at this; omega))⟩

set_option maxHeartbeats 1000000 in
theorem turns_short (l : List Nat) (ho : Crc.Octets l) (hl : l.length ≤ 1000) (p : Option Addr) (c : Nat) (at_ : Int) (x y z u : Nat) (hw : Crc.Octets [x, y, z, u]) (w : World) (h : BytesIn w p c l) :
    Calls Try.prog 5 #[.slice p l.length c, .int .i64 at_, .agg #[.int .u8 x, .int .u8 y, .int .u8 z, .int .u8 u]] w fun e w' => e = .returned (.bool true) ∧ Below w.heap.size w w' := by
  obtain ⟨n, hn⟩ : ∃ n, n = l.length := ⟨_, rfl⟩
  have HN := Lib.hid hn
  rw [← hn] at hl ⊢
  clear hn
  have hd : decide ((n : Int) > 1000) = false := decide_eq_false (by omega)
  have hd' : decide ((1000 : Int) < n) = false := decide_eq_false (by omega)
  go_enter Try.func5, Try.ntmps5
  go_wp2_with fail
  refine (awake_true _).mono ?_
  rintro e w1 ⟨rfl, hb1⟩
  have hbox1 : w1.heap[w.heap.size]? = some (.cells #[.int .u8 x, .int .u8 y, .int .u8 z, .int .u8 u] 33 (0, 0)) := (hb1.block _ (by simp)).trans (heap_alloc_new _ _)
  have hB1 : Below w.heap.size w w1 := ((Below.refl _ w).alloc (Nat.le_refl _) _).trans (hb1.mono (by simp))
  have hin1 := h.below hB1
  have hs1 := hB1.size
  have hsz : w.heap.size < w1.heap.size := by have := hb1.size; simp at this; omega
  have hseal := refseal_any l ho (by rw [← HN.out]; omega) p c w1 hin1
  have hso := Crc.octets_append ho (Crc.le4_octets (Crc.crc l))
  have hsl : (l ++ Crc.le4 (Crc.crc l)).length = n + 4 := by rw [List.length_append, ← HN.out]; rfl
  have HS := Lib.hid (Crc.turns l ho)
  rw [← HN.out] at hseal
  go_wp2_with fail
  refine hseal.mono ?_
  rintro e w2 ⟨v2, rfl, hown2, hb2⟩
  clear hseal
  obtain ⟨g, cap, rfl, hgb, hgl, hgc⟩ := owned_pos hown2 (by omega)
  have hB2 : Below w.heap.size w w2 := hB1.trans (hb2.mono hs1)
  have hbox2 : w2.heap[w.heap.size]? = some (.cells #[.int .u8 x, .int .u8 y, .int .u8 z, .int .u8 u] 33 (0, 0)) := (hb2.block _ hsz).trans hbox1
  obtain ⟨M, hM⟩ : ∃ M, M = at_.tmod ((n : Int) + 1) := ⟨_, rfl⟩
  have hMb := tmod_bound at_ n
  rw [← hM] at hMb
  obtain ⟨hM1, hM2⟩ := hMb
  have hM' : at_.tmod ((n : Int) + 1) = M := hM.symm
  clear hM
  have e3 : (n : Int) + 4 - 3 = (n : Int) + 1 := by omega
  obtain ⟨K, hK, hKn⟩ := place_nat M n hM1
  have hKi : (M + ((n : Int) + 4) - 3).tmod ((n : Int) + 1) = (K : Int) := by rw [← hK]; congr 1; omega
  clear hK
  obtain ⟨s0, hs0⟩ : ∃ s0, s0 = l ++ Crc.le4 (Crc.crc l) := ⟨_, rfl⟩
  rw [← hs0] at hso hsl hown2
  have HT := Lib.hid (by have := HS.out K (by rw [← HN.out]; exact hKn) x y z u hw; rw [← hs0] at this; exact this)
  clear HS hs0 hb1 hb2 hin1 hB1 hbox1 h
  go_wp2
  have HA := Lib.hid (And.intro hM' (And.intro hKi e3))
  clear hM' hKi e3
  obtain ⟨F, F0, FS, FL, FO, F4⟩ := altF (· ^^^ ·) Crc.xor_byte K [x, y, z, u] hw s0 hso
  rw [← F4] at HT
  have HFS := Lib.hid FS
  rw [← F0] at hown2
  have HL : Hid (∀ m, (F m).length = n + 4) := fun m => (FL m).trans hsl
  clear FS F4 FL F0 hso hsl
  go_loopw [9] (fun i wr => ∃ m : Nat, m ≤ 4 ∧ i = .int .i64 m ∧ wr.ownsRow w1.heap.size 5 1 (.slice (some ⟨g, 0, none⟩) (n + 4) cap) (n + 4) (bcells (F m)) ∧ wr.heap[w.heap.size]? = some (.cells #[.int .u8 x, .int .u8 y, .int .u8 z, .int .u8 u] 33 (0, 0)) ∧ Below w.heap.size w wr) (fun i _ => 4 - (intOf i).toNat)
  case atStart => exact ⟨0, by omega, rfl, hown2, hbox2, hB2⟩
  case round =>
    clear hown2 hbox2 hB2
    obtain ⟨m, hm, rfl, hown, hbox, HB⟩ := hrel
    by_cases hm4 : m < 4
    · have hc1 := hown.cellAt (K + m) (by omega)
      rw [bcells_get _ _ (by rw [HL.out]; omega)] at hc1
      have hf1 := hown.frozenAt (K + m)
      have hcx := four_cells hbox m hm4
      have hst := Lib.hid (HFS.out m)
      have ha := octet_at (FO m) (K + m)
      have hx := octet_at hw m
      generalize [x, y, z, u].getD m 0 = X at *
      generalize (F m).getD (K + m) 0 = A at *
      have hxo : bits .xor .u8 (A : Int) (X : Int) = ((A ^^^ X : Nat) : Int) := u8_xor_nat A X ha hx
      go_wp2
      go_region
      go_wp2
      go_roundw
      case rel =>
        refine ⟨m + 1, by omega, by go_num, ?_, ?_, ?_⟩
        · rw [hst.out, ← bcells_set]
          exact ((hown.stored (K + m) (.int .u8 ((A ^^^ X : Nat) : Int))).1).drew
        · exact (Below.heap_setCell _ _ _ _ (by simp; omega)).trans hbox
        · exact (HB.setCell (p := ⟨g, K + m, none⟩) (by simp; omega) _).drew
      case measure => simp [intOf]; omega
    · have hm4 : m = 4 := by omega
      subst hm4
      have hL := HL.out 4
      have hin : BytesIn wr (some ⟨g, 0, none⟩) cap ((F 4).take n ++ (F 4).drop n) := by
        rw [List.take_append_drop]
        exact owned_in (by rw [hL]; exact hown)
      have htl : ((F 4).take n).length = n := by rw [List.length_take, hL]; omega
      have hgw : g < wr.heap.size := ((hown.lt g rfl).2)
      have hopen := open_long ((F 4).take n) ((F 4).drop n) (fun a ha => FO 4 a (List.mem_of_mem_take ha)) (fun a ha => FO 4 a (List.mem_of_mem_drop ha)) (by rw [List.length_drop, hL]; omega) (by rw [htl]; omega) g 0 cap (by rw [htl]; exact hgc) wr hin
      rw [htl] at hopen
      have HT' := Lib.hid HT.out
      rw [← HN.out] at HT'
      go_wp2_with fail
      refine hopen.mono ?_
      rintro e w3 ⟨hb3, hh⟩
      have hbox3 : w3.heap[w.heap.size]? = some (.cells #[.int .u8 x, .int .u8 y, .int .u8 z, .int .u8 u] 33 (0, 0)) := (hb3.block _ (by omega)).trans hbox
      have b0 := four_cells hbox3 0 (by decide)
      have b1 := four_cells hbox3 1 (by decide)
      have b2 := four_cells hbox3 2 (by decide)
      have b3 := four_cells hbox3 3 (by decide)
      have HB3 : Below w.heap.size w w3 := HB.trans (hb3.mono (by omega))
      clear hopen hin hbox hbox3 hown
      have heq := eq_zeros
      rcases hh with ⟨hyes, v', rfl, _⟩ | ⟨hno, rfl⟩
      · obtain ⟨rfl, rfl, rfl, rfl⟩ := HT'.out.1 hyes
        go_wp2
        go_ret
        exact ⟨rfl, HB3⟩
      · have hne : ¬ (x = 0 ∧ y = 0 ∧ z = 0 ∧ u = 0) := fun h => hno (HT'.out.2 h)
        have hdz : decide (x = 0 ∧ y = 0 ∧ z = 0 ∧ u = 0) = false := decide_eq_false hne
        go_wp2
        go_ret
        exact ⟨rfl, HB3⟩

theorem turns_true (l : List Nat) (ho : Crc.Octets l) (p : Option Addr) (c : Nat) (at_ : Int) (x y z u : Nat) (hw : Crc.Octets [x, y, z, u]) (w : World) (h : BytesIn w p c l) :
    Calls Try.prog 5 #[.slice p l.length c, .int .i64 at_, .agg #[.int .u8 x, .int .u8 y, .int .u8 z, .int .u8 u]] w fun e w' => e = .returned (.bool true) ∧ Below w.heap.size w w' := by
  rcases Nat.lt_or_ge 1000 l.length with hl | hl
  · exact turns_long p l.length c at_ hl x y z u w
  · exact turns_short l ho hl p c at_ x y z u hw w h
end Go.Proofs.Ytehdbnjkgdfgbaa
