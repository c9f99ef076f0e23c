/-
  Slots: what is written.
-/
import Derived.Test.YtgcifhhbhoafcaaSlotOpen
import Derived.Test.YtgcifhhbhoafcaaLogFlush
namespace Go.Proofs.Ytgcifhhbhoafcaa
open Go.RowKit Go.Shelf
attribute [local go_sem] Oper.semAt_some

set_option maxHeartbeats 1000000 in
theorem sflush_any (P D f m gn : Nat) (off : Bool) (g : Nat) (S : List Sec) (c : Int) (hl : -9223372036854775808 ≤ c ∧ c ≤ 9223372036854775807) (at_ b o cc : Nat) (data : List UInt8) (h1 : 1 ≤ data.length) (hc0 : data.length ≤ cc) (hc : cc ≤ 9223372036854775807)
    (hat : at_ + (data.length + 63) / 64 ≤ S.length) (hws : (data.length + 63) / 64 ≤ 10000) (w : World) (HL : SlAt w P D f m gn off) (H : DiskAt w D g S (.slice none 0 0) [] c) (hDg : D ≠ g) (hPD : P ≠ D) (hb : w.rangeAt b o (bCells data)) (hbD : b ≠ D) :
    Calls Try.prog 59 #[.pointer (some ⟨P, 0, none⟩), .int .i64 at_, .slice (some ⟨b, o, none⟩) data.length cc] w fun e w' =>
      (e = .returned (.int .i64 0) ∧ c ≠ 0 ∧ less c ≠ 0 ∧ DiskAt w' D g (doneS S (piecesW at_ data)) (.slice none 0 0) [] (less (less c)) ∧ Chg (fun k => k = D ∨ k = g) w w')
      ∨ (e = .returned (.int .i64 20) ∧ 0 ≤ c ∧ ∃ v' ws', DiskAt w' D g S v' ws' 0 ∧ (ws' = [] ∨ ws' = piecesW at_ data) ∧ Chg (fun k => k = D) w w' ∧ (∀ k, v'.ownBlock = some k → w.heap.size ≤ k)) := by
  have k0 := HL.cells.1
  have HB := H.box
  have hNf := H.few
  by_cases hcz : c = 0
  · subst hcz
    have hw := write_off D g S.length (.slice none 0 0) at_ (some ⟨b, o, none⟩) data.length cc h1 (by omega) hat hNf w HB
    have HH := Lib.hid H
    clear HL HB hNf hb H
    go_enter Try.func59, Try.ntmps59
    go_wp2_with fail
    refine hw.mono ?_
    rintro e w1 ⟨rfl, hb1⟩
    have HB1 := Lib.hid hb1
    clear hb1
    go_wp2
    go_ret
    exact .inr ⟨rfl, by decide, .slice none 0 0, [], HH.out.on HB1.out, .inl rfl, Chg.below HB1.out _, fun k hk => by cases hk⟩
  · have hw := write_any D g S (.slice none 0 0) [] c hl hcz at_ b o cc data h1 hc0 hc hat (by simpa using hws) w H hDg hb hbD (by simp [Value.ownBlock])
    have HLL := Lib.hid HL
    have HDL := Lib.hid (show D < w.heap.size from (Array.getElem?_eq_some_iff.1 HB).1)
    have HP64 := Lib.hid (show (piecesW at_ data).length ≤ 10000 by rw [piecesW, List.length_mapIdx, pcs_len]; exact hws)
    clear HL HB hNf hb H
    by_cases hc1 : less c = 0
    · go_enter Try.func59, Try.ntmps59
      go_wp2_with fail
      refine hw.mono ?_
      rintro e w1 ⟨rfl, v1, hd1, hc1', hv1⟩
      rw [hc1] at hd1
      have kk := (HLL.out.chg hc1' (by rintro (e | e); exact hPD e; cases e)).cells.1
      have HD1 := Lib.hid hd1
      have HC1 := Lib.hid (hc1'.weaken (ex' := fun k => k = D) (fun k _ e => by rcases e with e | e; exact e; cases e))
      have HV1 := Lib.hid hv1
      have hs := sync_off D g S.length v1 w1 hd1.box
      have hpos : 0 ≤ c := by unfold less at hc1; split at hc1 <;> omega
      clear hd1 hc1' hv1 hc1
      go_wp2_with fail
      refine hs.mono ?_
      rintro e w2 ⟨rfl, hb2⟩
      have HB2 := Lib.hid hb2
      clear hb2
      go_wp2
      go_ret
      refine .inr ⟨rfl, hpos, v1, piecesW at_ data, HD1.out.on HB2.out, .inr rfl, HC1.out.trans (Chg.below HB2.out _), fun k hk => ?_⟩
      rcases HV1.out k hk with h | h
      · cases h
      · exact h
    · go_enter Try.func59, Try.ntmps59
      go_wp2_with fail
      refine hw.mono ?_
      rintro e w1 ⟨rfl, v1, hd1, hc1', hv1⟩
      have kk := (HLL.out.chg hc1' (by rintro (e | e); exact hPD e; cases e)).cells.1
      have HC1 := Lib.hid (hc1'.weaken (ex' := fun k => k = D) (fun k _ e => by rcases e with e | e; exact e; cases e))
      have hs := sync_any D g S v1 ([] ++ piecesW at_ data) (less c) (less_low hl) hc1 (by have := HP64.out; simp; omega) w1 hd1 hDg
      rw [List.nil_append] at hs
      have HC1Z := Lib.hid hc1
      clear hd1 hc1' hv1 hc1
      go_wp2_with fail
      refine hs.mono ?_
      rintro e w2 ⟨rfl, hd2, hc2⟩
      have HD2 := Lib.hid hd2
      have HC2 := Lib.hid hc2
      clear hd2 hc2
      go_wp2
      go_ret
      exact .inl ⟨rfl, hcz, HC1Z.out, HD2.out, (HC1.out.weaken (fun k _ e => .inl e)).trans HC2.out⟩

/-- Bytes in sectors, zeros behind. -/
def padAt (data : List UInt8) (k : Nat) : Sec := (data.drop (64 * k)).take 64 ++ List.replicate (64 - (data.length - 64 * k)) 0
def padS (data : List UInt8) : List Sec := (List.range ((data.length + 63) / 64)).map (padAt data)
theorem padS_len (data : List UInt8) : (padS data).length = (data.length + 63) / 64 := by simp [padS]
theorem padAt_len (data : List UInt8) (k : Nat) (h : 64 * k < data.length) : (padAt data k).length = 64 := by
  unfold padAt
  rw [List.length_append, List.length_take, List.length_drop, List.length_replicate]
  omega
theorem padS_64 (data : List UInt8) : ∀ s ∈ padS data, s.length = 64 := fun s hs => by
  obtain ⟨k, hk, rfl⟩ := List.mem_map.1 hs
  have := List.mem_range.1 hk
  exact padAt_len data k (by omega)
theorem pieces_pad (a : Nat) (data : List UInt8) : piecesW a data = (padS data).mapIdx fun i s => (a + i, s) := by
  unfold piecesW padS
  apply List.ext_getElem
  · rw [List.length_mapIdx, pcs_len, List.length_mapIdx, List.length_map, List.length_range]
  · intro i h1 h2
    have hi : i < (data.length + 63) / 64 := by simpa using h2
    rw [List.getElem_mapIdx, List.getElem_mapIdx]
    have e : (pcs data.length)[i]'(by simpa using h1) = ⟨(64 * i, min 64 (data.length - 64 * i)), by refine ⟨?_, ?_, ?_⟩ <;> dsimp only <;> omega⟩ := by simp [pcs]
    rw [e, List.getElem_map, List.getElem_range]
    unfold pieceW padAt
    dsimp only
    have e1 : (data.drop (64 * i)).take (min 64 (data.length - 64 * i)) = (data.drop (64 * i)).take 64 := by
      by_cases hm : 64 ≤ data.length - 64 * i
      · rw [Nat.min_eq_left hm]
      · rw [Nat.min_eq_right (by omega), List.take_of_length_le (by rw [List.length_drop]; exact Nat.le_refl _), List.take_of_length_le (by rw [List.length_drop]; omega)]
    rw [e1, show 64 - min 64 (data.length - 64 * i) = 64 - (data.length - 64 * i) by omega]
theorem pad_take (data : List UInt8) : (padS data).flatten.take data.length = data := by
  apply List.ext_getElem?
  intro i
  rw [List.getElem?_take]
  split
  · rename_i hi
    have e := flatG_at (fun s : Sec => s) 64 (padS data) (i / 64) (by rw [padS_len]; omega) (fun s hs => padS_64 data s hs) (i % 64) (Nat.mod_lt _ (by decide))
    rw [List.map_id', show i / 64 * 64 + i % 64 = i by omega] at e
    rw [e]
    simp only [padS, List.getElem_map, List.getElem_range, padAt]
    rw [List.getElem?_append_left (by rw [List.length_take, List.length_drop]; omega), List.getElem?_take_of_lt (Nat.mod_lt _ (by decide)), List.getElem?_drop]
    congr 1
    omega
  · rw [List.getElem?_eq_none (by omega)]
/-- What may lie on the disk when the power fails on the way. -/
def HalfS (S : List Sec) (a g st : Nat) (body : List UInt8) (S' : List Sec) (ws' : List Wq) : Prop :=
  (S' = S ∧ (ws' = [] ∨ ws' = (padS body).mapIdx fun i s => (a + 1 + i, s))) ∨ (S' = putS S (a + 1) (padS body) ∧ (ws' = [] ∨ ws' = [(a, hdrS g st body)]))
theorem sput_put (S X : List Sec) (a : Nat) (h : Sec) (hl : a + 1 + X.length ≤ S.length) : putS (putS S (a + 1) X) a [h] = putS S a (h :: X) := by
  unfold putS
  rw [List.take_append_of_le_length (by rw [List.length_append, List.length_take]; omega), List.take_append_of_le_length (by rw [List.length_take]; omega), List.take_take, Nat.min_eq_left (by omega), List.length_cons, List.length_nil, Nat.zero_add, List.append_assoc (S.take (a + 1)), List.drop_append, List.drop_eq_nil_of_le (by rw [List.length_take]; omega), List.nil_append, List.length_take, Nat.min_eq_left (by omega), Nat.sub_self, List.drop_zero, List.length_cons, show a + 1 + X.length = a + (X.length + 1) by omega]
  simp

set_option maxRecDepth 20000 in
set_option maxHeartbeats 1000000 in
theorem shead_flush (P D f m gn : Nat) (off : Bool) (g : Nat) (S : List Sec) (c : Int) (hl : -9223372036854775808 ≤ c ∧ c ≤ 9223372036854775807) (a : Nat) (Hd : Sec) (hlen : Hd.length = 64) (ha : a < S.length) (B : Nat) (w : World) (HL : SlAt w P D f m gn off) (H : DiskAt w D g S (.slice none 0 0) [] c) (hDg : D ≠ g) (hPD : P ≠ D) (hb : w.rangeAt B 0 (bCells Hd)) (hBD : B ≠ D) :
    Calls Try.prog 59 #[.pointer (some ⟨P, 0, none⟩), .int .i64 a, .slice (some ⟨B, 0, none⟩) 64 64] w fun e w' =>
      (e = .returned (.int .i64 0) ∧ c ≠ 0 ∧ less c ≠ 0 ∧ DiskAt w' D g (putS S a [Hd]) (.slice none 0 0) [] (less (less c)) ∧ Chg (fun k => k = D ∨ k = g) w w')
      ∨ (e = .returned (.int .i64 20) ∧ 0 ≤ c ∧ ∃ v' ws', DiskAt w' D g S v' ws' 0 ∧ (ws' = [] ∨ ws' = [(a, Hd)]) ∧ Chg (fun k => k = D) w w' ∧ (∀ k, v'.ownBlock = some k → w.heap.size ≤ k)) := by
  have h := sflush_any P D f m gn off g S c hl a B 0 64 Hd (by rw [hlen]; decide) (by rw [hlen]; decide) (by decide) (by rw [hlen]; omega) (by rw [hlen]; decide) w HL H hDg hPD hb hBD
  rw [hlen, pieces_one a _ hlen] at h
  have e : doneS S [(a, Hd)] = putS S a [Hd] := by
    have := done_put [Hd] S a (by simp; omega)
    simpa using this
  rw [e] at h
  exact h
theorem sbody_flush (P D f m gn : Nat) (off : Bool) (g : Nat) (S : List Sec) (c : Int) (hl : -9223372036854775808 ≤ c ∧ c ≤ 9223372036854775807) (a : Nat) (body : List UInt8) (hb0 : 0 < body.length) (hbl : body.length ≤ 600000) (ha : a + (padS body).length ≤ S.length) (B o cc : Nat) (hcc : body.length ≤ cc) (hc63 : cc ≤ 9223372036854775807) (w : World) (HL : SlAt w P D f m gn off) (H : DiskAt w D g S (.slice none 0 0) [] c) (hDg : D ≠ g) (hPD : P ≠ D) (hb : w.rangeAt B o (bCells body)) (hBD : B ≠ D) :
    Calls Try.prog 59 #[.pointer (some ⟨P, 0, none⟩), .int .i64 a, .slice (some ⟨B, o, none⟩) body.length cc] w fun e w' =>
      (e = .returned (.int .i64 0) ∧ c ≠ 0 ∧ less c ≠ 0 ∧ DiskAt w' D g (putS S a (padS body)) (.slice none 0 0) [] (less (less c)) ∧ Chg (fun k => k = D ∨ k = g) w w')
      ∨ (e = .returned (.int .i64 20) ∧ 0 ≤ c ∧ ∃ v' ws', DiskAt w' D g S v' ws' 0 ∧ (ws' = [] ∨ ws' = (padS body).mapIdx fun i s => (a + i, s)) ∧ Chg (fun k => k = D) w w' ∧ (∀ k, v'.ownBlock = some k → w.heap.size ≤ k)) := by
  have hpl := padS_len body
  have h := sflush_any P D f m gn off g S c hl a B o cc body hb0 hcc hc63 (by omega) (by omega) w HL H hDg hPD hb hBD
  rw [pieces_pad a, done_put _ _ _ ha] at h
  exact h
end Go.Proofs.Ytgcifhhbhoafcaa
