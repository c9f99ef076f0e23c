/-
  Sectors written and synchronized.
-/
import Derived.Test.YtgcifhhbhoafcaaLogLog
namespace Go.Proofs.Ytgcifhhbhoafcaa
open Go.RowKit Go.Shelf

/-- Sectors that are put at a place. -/
def putS (S : List Sec) (a : Nat) (X : List Sec) : List Sec := S.take a ++ X ++ S.drop (a + X.length)
theorem putS_len {S : List Sec} {a : Nat} {X : List Sec} (h : a + X.length ≤ S.length) : (putS S a X).length = S.length := by
  simp only [putS, List.length_append, List.length_take, List.length_drop]
  omega
theorem putS_64 {S : List Sec} {a : Nat} {X : List Sec} (hS : ∀ s ∈ S, s.length = 64) (hX : ∀ s ∈ X, s.length = 64) : ∀ s ∈ putS S a X, s.length = 64 := fun s hs => by
  rcases List.mem_append.1 hs with h | h
  · rcases List.mem_append.1 h with h | h
    · exact hS s (List.mem_of_mem_take h)
    · exact hX s h
  · exact hS s (List.mem_of_mem_drop h)
theorem done_put : ∀ (X : List Sec) (S : List Sec) (a : Nat), a + X.length ≤ S.length → doneS S (X.mapIdx fun i s => (a + i, s)) = putS S a X
  | [], S, a, _ => by simp [putS, doneS]
  | x :: X, S, a, h => by
    have hl : a < S.length := by simp at h; omega
    have e : (X.mapIdx fun i s => (a + (i + 1), s)) = X.mapIdx fun i s => (a + 1 + i, s) := by
      congr 1
      funext i s
      rw [Nat.add_assoc, Nat.add_comm 1 i]
    rw [List.mapIdx_cons, e]
    show doneS (S.set (a + 0) x) _ = _
    rw [Nat.add_zero, done_put X (S.set a x) (a + 1) (by rw [List.length_set]; simp at h; omega)]
    unfold putS
    rw [List.take_set, List.drop_set, if_pos (by omega), List.length_cons, show a + 1 + X.length = a + (X.length + 1) by omega]
    congr 1
    rw [List.take_succ_eq_append_getElem hl, List.set_append_right _ _ (by rw [List.length_take]; omega), List.length_take, Nat.min_eq_left (by omega), Nat.sub_self, List.set_cons_zero, List.append_assoc]
    rfl
/-- Whole sectors as writes. -/
theorem pieces_flat (a : Nat) (X : List Sec) (hX : ∀ s ∈ X, s.length = 64) : piecesW a X.flatten = X.mapIdx fun i s => (a + i, s) := by
  have hl := flat_64 X hX
  unfold piecesW
  apply List.ext_getElem
  · rw [List.length_mapIdx, pcs_len, List.length_mapIdx, hl]
    omega
  · intro i h1 h2
    have hi : i < X.length := by simpa using h2
    rw [List.getElem_mapIdx, List.getElem_mapIdx]
    have e : (pcs X.flatten.length)[i]'(by simpa using h1) = ⟨(64 * i, min 64 (X.flatten.length - 64 * i)), by rw [hl]; refine ⟨?_, ?_, ?_⟩ <;> dsimp only <;> omega⟩ := by simp [pcs]
    rw [e]
    unfold pieceW
    dsimp only
    have hm : min 64 (X.flatten.length - 64 * i) = 64 := by rw [hl]; omega
    simp only [hm, Nat.sub_self, List.replicate_zero, List.append_nil]
    congr 1
    apply List.ext_getElem?
    intro j
    rw [List.getElem?_take]
    split
    · rename_i hj
      have := flatG_at (fun s : Sec => s) 64 X i hi hX j hj
      rw [List.map_id'] at this
      rw [List.getElem?_drop, Nat.mul_comm 64 i, this]
    · rw [List.getElem?_eq_none (by rw [hX _ (List.getElem_mem hi)]; omega)]
theorem pieces_one (a : Nat) (h : Sec) (hh : h.length = 64) : piecesW a h = [(a, h)] := by
  have := pieces_flat a [h] (fun s hs => by rw [List.mem_singleton.1 hs]; exact hh)
  simpa using this

theorem less_neg {c : Int} (h : c < 0) : less c = c := by unfold less; rw [if_neg (by omega)]
theorem less_pos {c : Int} (h : 0 < c) : less c = c - 1 := by unfold less; rw [if_pos h]

set_option maxHeartbeats 1000000 in
theorem flush_any (P D f n u l : Nat) (off : Bool) (g : Nat) (S : List Sec) (c : Int) (hl : -9223372036854775808 ≤ c ∧ c ≤ 9223372036854775807) (at_ b o cc : Nat) (data : List UInt8) (h1 : 1 ≤ data.length) (hc0 : data.length ≤ cc) (hc : cc ≤ 9223372036854775807)
    (hat : at_ + (data.length + 63) / 64 ≤ S.length) (hws : (data.length + 63) / 64 ≤ 10000) (w : World) (HL : LogAt w P D f n u l off) (H : DiskAt w D g S (.slice none 0 0) [] c) (hDg : D ≠ g) (hPD : P ≠ D) (hb : w.rangeAt b o (bCells data)) (hbD : b ≠ D) :
    Calls Try.prog 62 #[.pointer (some ⟨P, 0, none⟩), .int .i64 at_, .slice (some ⟨b, o, none⟩) data.length cc] w fun e w' =>
      (e = .returned (.int .i64 0) ∧ c ≠ 0 ∧ less c ≠ 0 ∧ DiskAt w' D g (doneS S (piecesW at_ data)) (.slice none 0 0) [] (less (less c)) ∧ Chg (fun k => k = D ∨ k = g) w w')
      ∨ (e = .returned (.int .i64 20) ∧ 0 ≤ c ∧ ∃ v' ws', DiskAt w' D g S v' ws' 0 ∧ (ws' = [] ∨ ws' = piecesW at_ data) ∧ Chg (fun k => k = D) w w' ∧ (∀ k, v'.ownBlock = some k → w.heap.size ≤ k)) := by
  have k0 := HL.cells.1
  have HB := H.box
  have hNf := H.few
  by_cases hcz : c = 0
  · subst hcz
    have hw := write_off D g S.length (.slice none 0 0) at_ (some ⟨b, o, none⟩) data.length cc h1 (by omega) hat hNf w HB
    have HH := Lib.hid H
    clear HL HB hNf hb H
    go_enter Try.func62, Try.ntmps62
    go_wp2_with fail
    refine hw.mono ?_
    rintro e w1 ⟨rfl, hb1⟩
    have HB1 := Lib.hid hb1
    clear hb1
    go_wp2
    go_ret
    exact .inr ⟨rfl, by decide, .slice none 0 0, [], HH.out.on HB1.out, .inl rfl, Chg.below HB1.out _, fun k hk => by cases hk⟩
  · have hw := write_any D g S (.slice none 0 0) [] c hl hcz at_ b o cc data h1 hc0 hc hat (by simpa using hws) w H hDg hb hbD (by simp [Value.ownBlock])
    have HLL := Lib.hid HL
    have HDL := Lib.hid (show D < w.heap.size from (Array.getElem?_eq_some_iff.1 HB).1)
    have HP64 := Lib.hid (show (piecesW at_ data).length ≤ 10000 by rw [piecesW, List.length_mapIdx, pcs_len]; exact hws)
    clear HL HB hNf hb H
    by_cases hc1 : less c = 0
    · go_enter Try.func62, Try.ntmps62
      go_wp2_with fail
      refine hw.mono ?_
      rintro e w1 ⟨rfl, v1, hd1, hc1', hv1⟩
      rw [hc1] at hd1
      have kk := (HLL.out.chg hc1' (by rintro (e | e); exact hPD e; cases e)).cells.1
      have HD1 := Lib.hid hd1
      have HC1 := Lib.hid (hc1'.weaken (ex' := fun k => k = D) (fun k _ e => by rcases e with e | e; exact e; cases e))
      have HV1 := Lib.hid hv1
      have hs := sync_off D g S.length v1 w1 hd1.box
      have hpos : 0 ≤ c := by unfold less at hc1; split at hc1 <;> omega
      clear hd1 hc1' hv1 hc1
      go_wp2_with fail
      refine hs.mono ?_
      rintro e w2 ⟨rfl, hb2⟩
      have HB2 := Lib.hid hb2
      clear hb2
      go_wp2
      go_ret
      refine .inr ⟨rfl, hpos, v1, piecesW at_ data, HD1.out.on HB2.out, .inr rfl, HC1.out.trans (Chg.below HB2.out _), fun k hk => ?_⟩
      rcases HV1.out k hk with h | h
      · cases h
      · exact h
    · go_enter Try.func62, Try.ntmps62
      go_wp2_with fail
      refine hw.mono ?_
      rintro e w1 ⟨rfl, v1, hd1, hc1', hv1⟩
      have kk := (HLL.out.chg hc1' (by rintro (e | e); exact hPD e; cases e)).cells.1
      have HC1 := Lib.hid (hc1'.weaken (ex' := fun k => k = D) (fun k _ e => by rcases e with e | e; exact e; cases e))
      have hs := sync_any D g S v1 ([] ++ piecesW at_ data) (less c) (less_low hl) hc1 (by have := HP64.out; simp; omega) w1 hd1 hDg
      rw [List.nil_append] at hs
      have HC1Z := Lib.hid hc1
      clear hd1 hc1' hv1 hc1
      go_wp2_with fail
      refine hs.mono ?_
      rintro e w2 ⟨rfl, hd2, hc2⟩
      have HD2 := Lib.hid hd2
      have HC2 := Lib.hid hc2
      clear hd2 hc2
      go_wp2
      go_ret
      exact .inl ⟨rfl, hcz, HC1Z.out, HD2.out, (HC1.out.weaken (fun k _ e => .inl e)).trans HC2.out⟩
end Go.Proofs.Ytgcifhhbhoafcaa
