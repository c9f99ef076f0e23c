/-
  The reference's cut: the words of a line.
-/
import Derived.Test.YtdeacankicciaaaDoorReqRefN
namespace Go.Proofs.YtdeacankicciaaaDoor
open Go.RowKit Rp Rq

/-- A row that grew from nothing since w0. -/
structure GRow (e : TypeId) (w0 w : World) (v : Value) (xs : List Value) : Prop where
  own : w.ownsRow w0.heap.size e 1 v xs.length xs
  below : Below w0.heap.size w0 w
theorem GRow.nil (e : TypeId) (w : World) : GRow e w w (.slice none 0 0) [] := ⟨World.ownsRow_nil _ _ _ _, Below.refl _ _⟩
theorem GRow.push {e : TypeId} {w0 w : World} {v : Value} {xs : List Value} (H : GRow e w0 w v xs) {o : Obj} {w2 : World} {g cap : Nat} {x : Value} (hown : w2.ownsRow w0.heap.size e 1 (.slice (some ⟨g, 0, none⟩) (xs.length + 1) cap) (xs.length + 1) (xs ++ [x])) (hgr : (w.alloc o).grownBy w2 v.ownBlock) :
    GRow e w0 w2 (.slice (some ⟨g, 0, none⟩) (xs.length + 1) cap) (xs ++ [x]) := by
  refine ⟨by rw [List.length_append]; exact hown, (bA H.below o).grown hgr (by have := H.below.size; simp; omega) (fun k hk => (H.own.lt k hk).1)⟩
theorem GRow.shape {e : TypeId} {w0 w : World} {v : Value} {xs : List Value} (H : GRow e w0 w v xs) : ∃ p c, v = .slice p xs.length c := by
  rcases H.own.2 with ⟨rfl, h⟩ | ⟨g, cap, cur, rfl, _⟩
  · refine ⟨none, 0, ?_⟩
    have : xs = [] := by simpa using h
    rw [this]; rfl
  · exact ⟨_, _, rfl⟩

theorem bsq_app (a b : List UInt8) : bs a ++ bs b = bs (a ++ b) := by
  apply ByteArray.ext
  rw [ByteArray.data_append]
  simp [bs]
theorem bs_one (t : List UInt8) (i : Nat) (h : i < t.length) : (bs t).extract i (i + 1) = bs [t[i]] := by
  rw [pieceU_bs]
  unfold Lib.pieceU
  rw [Nat.add_sub_cancel_left, List.drop_eq_getElem_cons h]
  rfl
theorem bs_isEmpty (t : List UInt8) : (bs t).toList.isEmpty = t.isEmpty := by rw [Lib.toList_data]; rfl
theorem fieldsQ_step (t : List UInt8) (i : Nat) (h : i < t.length) (cur : Wd) : fieldsQ (t.drop i) cur = if t[i] = 32 then (if cur = [] then fieldsQ (t.drop (i + 1)) [] else cur :: fieldsQ (t.drop (i + 1)) []) else fieldsQ (t.drop (i + 1)) (cur ++ [t[i]]) := by
  rw [List.drop_eq_getElem_cons h, fieldsQ]
theorem fieldsQ_end (t : List UInt8) (i : Nat) (h : ¬ i < t.length) (cur : Wd) : fieldsQ (t.drop i) cur = if cur = [] then [] else [cur] := by
  rw [List.drop_eq_nil_of_le (by omega), fieldsQ]

/-- What stands at the head of a round of cut's loop. -/
structure CutI (t : List UInt8) (w0 : World) (i : Nat) (ws : List Wd) (C : ByteArray) (v : Value) (wr : World) : Prop where
  le : i ≤ t.length
  few : ws.length ≤ i
  row : GRow 9 w0 wr v (wCells ws)
  cur : ∃ cur : Wd, C = bs cur ∧ cur.length ≤ i ∧ fieldsQ t [] = ws ++ fieldsQ (t.drop i) cur

theorem CutI.same {t : List UInt8} {w0 : World} {i : Nat} {ws : List Wd} {C : ByteArray} {v : Value} {wr : World} (H : CutI t w0 i ws C v wr) (hi : i < t.length) (h32 : t[i] = 32) (hC : C.toList.isEmpty = true) : CutI t w0 (i + 1) ws ⟨#[]⟩ v wr := by
  obtain ⟨cur, rfl, hc, hf⟩ := H.cur
  rw [bs_isEmpty, List.isEmpty_iff] at hC
  subst hC
  refine ⟨hi, by have := H.few; omega, H.row, [], rfl, by simp, ?_⟩
  rw [hf, fieldsQ_step t i hi, if_pos h32, if_pos rfl]
theorem CutI.put {t : List UInt8} {w0 : World} {i : Nat} {ws : List Wd} {C : ByteArray} {v : Value} {wr : World} (H : CutI t w0 i ws C v wr) (hi : i < t.length) (h32 : t[i] = 32) (hC : C.toList.isEmpty = false) {o : Obj} {w2 : World} {g cap : Nat} (hown : w2.ownsRow w0.heap.size 9 1 (.slice (some ⟨g, 0, none⟩) (ws.length + 1) cap) (ws.length + 1) (wCells ws ++ [.string C])) (hgr : (wr.alloc o).grownBy w2 v.ownBlock) :
    ∃ ws', CutI t w0 (i + 1) ws' ⟨#[]⟩ (.slice (some ⟨g, 0, none⟩) (ws.length + 1) cap) w2 := by
  obtain ⟨cur, rfl, hc, hf⟩ := H.cur
  rw [bs_isEmpty] at hC
  have hcn : cur ≠ [] := fun e => by rw [e] at hC; cases hC
  refine ⟨ws ++ [cur], hi, by have := H.few; simp; omega, ?_, [], rfl, by simp, ?_⟩
  · rw [wCells_snoc]
    have := H.row.push (x := .string (bs cur)) (by rw [wCells_len]; exact hown) hgr
    rw [wCells_len] at this
    exact this
  · rw [hf, fieldsQ_step t i hi, if_pos h32, if_neg hcn, List.append_assoc]
    rfl
theorem CutI.add {t : List UInt8} {w0 : World} {i : Nat} {ws : List Wd} {C : ByteArray} {v : Value} {wr : World} (H : CutI t w0 i ws C v wr) (hi : i < t.length) (h32 : ¬ t[i] = 32) : CutI t w0 (i + 1) ws (C ++ bs [t[i]]) v wr := by
  obtain ⟨cur, rfl, hc, hf⟩ := H.cur
  refine ⟨hi, by have := H.few; omega, H.row, cur ++ [t[i]], bsq_app _ _, by simp; omega, ?_⟩
  rw [hf, fieldsQ_step t i hi, if_neg h32]
theorem CutI.stop {t : List UInt8} {w0 : World} {i : Nat} {ws : List Wd} {C : ByteArray} {v : Value} {wr : World} (H : CutI t w0 i ws C v wr) (hi : ¬ i < t.length) (hC : C.toList.isEmpty = true) : GRow 9 w0 wr v (wCells (fieldsQ t [])) := by
  obtain ⟨cur, rfl, hc, hf⟩ := H.cur
  rw [bs_isEmpty, List.isEmpty_iff] at hC
  subst hC
  rw [hf, fieldsQ_end t i hi, if_pos rfl, List.append_nil]
  exact H.row
theorem CutI.last {t : List UInt8} {w0 : World} {i : Nat} {ws : List Wd} {C : ByteArray} {v : Value} {wr : World} (H : CutI t w0 i ws C v wr) (hi : ¬ i < t.length) (hC : C.toList.isEmpty = false) {o : Obj} {w2 : World} {g cap : Nat} (hown : w2.ownsRow w0.heap.size 9 1 (.slice (some ⟨g, 0, none⟩) (ws.length + 1) cap) (ws.length + 1) (wCells ws ++ [.string C])) (hgr : (wr.alloc o).grownBy w2 v.ownBlock) :
    GRow 9 w0 w2 (.slice (some ⟨g, 0, none⟩) (ws.length + 1) cap) (wCells (fieldsQ t [])) := by
  obtain ⟨cur, rfl, hc, hf⟩ := H.cur
  rw [bs_isEmpty] at hC
  have hcn : cur ≠ [] := fun e => by rw [e] at hC; cases hC
  rw [hf, fieldsQ_end t i hi, if_neg hcn, wCells_snoc]
  have := H.row.push (x := .string (bs cur)) (by rw [wCells_len]; exact hown) hgr
  rw [wCells_len] at this
  exact this

set_option maxRecDepth 20000 in
set_option maxHeartbeats 2000000 in
theorem cut_any (t : List UInt8) (ht : t.length ≤ 100000000) (w : World) :
    Calls Tryd.prog 45 #[.string (bs t)] w fun e w' => ∃ v, e = .returned v ∧ GRow 9 w w' v (wCells (fieldsQ t [])) := by
  obtain ⟨i0, hi, hz0, hz1, hz2⟩ := info_parts info_str
  obtain ⟨S, hS⟩ : ∃ S, S = bs t := ⟨_, rfl⟩
  have hSZ : S.size = t.length := by rw [hS, bs_size]
  have HGET := Lib.hid (fun (i : Nat) (h : i < S.size) (h' : i < t.length) => (by subst hS; rfl : S[i] = t[i]))
  have HEX := Lib.hid (fun (i : Nat) (h' : i < t.length) => (by rw [hS]; exact bs_one t i h' : S.extract i (i + 1) = bs [t[i]]))
  have HSZ := Lib.hid hSZ
  have hSm : S.size ≤ 100000000 := by omega
  rw [← hS]
  clear hS hSZ
  go_enter Tryd.func45, Tryd.ntmps45
  go_wp2_with fail
  go_loopw [3, 4, 5] (fun s3 s4 s5 wr => ∃ (i : Nat) (ws : List Wd) (C : ByteArray), s5 = .int .i64 i ∧ s4 = .string C ∧ Hid (CutI t w i ws C s3 wr)) (fun s3 s4 s5 _ => S.size - (intOf s5).toNat)
  case atStart => exact ⟨0, [], ⟨#[]⟩, rfl, rfl, Lib.hid ⟨Nat.zero_le _, Nat.le_refl _, GRow.nil _ _, [], rfl, by simp, by simp⟩⟩
  case round =>
    obtain ⟨i, ws, C, rfl, rfl, HI⟩ := hrel
    have hfew := HI.out.few
    have hile := HI.out.le
    have hCs : C.size ≤ i := by
      obtain ⟨cur, h1, h2, _⟩ := HI.out.cur
      rw [h1, bs_size]
      exact h2
    have hHS := HSZ.out
    have hwm : w.heap.size ≤ wr.heap.size := HI.out.row.below.size
    have HOA := Lib.hid (fun o => HI.out.row.own.alloc o)
    rw [wCells_len] at HOA
    by_cases hlt : i < S.size
    · have hlt2 : i < t.length := by omega
      have hget := HGET.out i hlt hlt2
      obtain ⟨x, hx⟩ : ∃ x, t[i] = x := ⟨_, rfl⟩
      by_cases h32 : t[i] = 32
      · have HN := Lib.hid (HI.out.same hlt2 h32)
        have HP := Lib.hid (fun hC => @CutI.put t w i ws C _ wr HI.out hlt2 h32 hC)
        have hb : ((S[i].toNat : Int) == 32) = true := by rw [hget, h32]; rfl
        clear hget hx h32 hHS
        cases hCe : C.toList.isEmpty with
        | true =>
          have HCE := Lib.hid (HN.out hCe)
          go_wp2_with fail
          go_roundw
          case rel => exact ⟨i + 1, ws, _, by go_num, rfl, HCE⟩
          case measure => simp [intOf]; omega
        | false =>
          have HCE := Lib.hid hCe
          go_wp2_with (at_builtin; refine wpList_append_lies _ rfl (.tmp 18) (.tmp 20) 50 rfl w.heap.size 9 i0 (.string ⟨#[]⟩) 1 16 Tryd.underlying50 hi hz0 hz1 hz2 rfl (by decide) _ ws.length (wCells ws) rfl (HOA.out _) ⟨wr.heap.size, 0, none⟩ 1 1 [.string C] rfl rfl ?c1 (by intro y hy; simp at hy; rw [hy]; rfl) (by decide) (by unfold maxLen; omega) (by omega) (by simp; omega) (wr.heap.size + 1) (by simp) ?_)
          case c1 =>
            intro k u hk
            rw [Lib.add_plain, Nat.zero_add, Lib.cell_of_heap (heap_alloc_new wr _), ← hk]
            match k with
            | 0 => rfl
            | k + 1 => rfl
          intro g cap w3 hown hgrow hg hgl
          obtain ⟨ws', HW⟩ := HP.out HCE.out hown hgrow
          have HNX := Lib.hid HW
          clear hown hgrow hg hgl HW
          go_wp2_with fail
          go_roundw
          case rel => exact ⟨i + 1, ws', _, by go_num, rfl, HNX⟩
          case measure => simp [intOf]; omega
      · have HN := Lib.hid (HI.out.add hlt2 h32)
        have hb : ((S[i].toNat : Int) == 32) = false := by
          rw [hget, beq_eq_false_iff_ne]
          intro e
          exact h32 (UInt8.toNat_inj.1 (by show t[i].toNat = 32; omega))
        have hex := HEX.out i hlt2
        obtain ⟨X, hX⟩ : ∃ X, X = bs [t[i]] := ⟨_, rfl⟩
        have hXs : X.size = 1 := by rw [hX]; rfl
        rw [← hX] at hex HN
        clear hget hx h32 hX hHS
        go_wp2_with fail
        go_roundw
        case rel => exact ⟨i + 1, ws, _, by go_num, rfl, HN⟩
        case measure => simp [intOf]; omega
    · have hlt2 : ¬ i < t.length := by omega
      cases hCe : C.toList.isEmpty with
      | true =>
        have HE := Lib.hid (HI.out.stop hlt2 hCe)
        go_wp2
        go_ret
        exact ⟨_, rfl, HE.out⟩
      | false =>
        have HP := Lib.hid (fun hC => @CutI.last t w i ws C _ wr HI.out hlt2 hC)
        have HCE := Lib.hid hCe
        clear hHS
        go_wp2_with (at_builtin; refine wpList_append_lies _ rfl (.tmp 31) (.tmp 33) 50 rfl w.heap.size 9 i0 (.string ⟨#[]⟩) 1 16 Tryd.underlying50 hi hz0 hz1 hz2 rfl (by decide) _ ws.length (wCells ws) rfl (HOA.out _) ⟨wr.heap.size, 0, none⟩ 1 1 [.string C] rfl rfl ?c2 (by intro y hy; simp at hy; rw [hy]; rfl) (by decide) (by unfold maxLen; omega) (by omega) (by simp; omega) (wr.heap.size + 1) (by simp) ?_)
        case c2 =>
          intro k u hk
          rw [Lib.add_plain, Nat.zero_add, Lib.cell_of_heap (heap_alloc_new wr _), ← hk]
          match k with
          | 0 => rfl
          | k + 1 => rfl
        intro g cap w3 hown hgrow hg hgl
        have HNX := Lib.hid (HP.out HCE.out hown hgrow)
        clear hown hgrow hg hgl
        go_wp2
        go_ret
        exact ⟨_, rfl, HNX.out⟩
end Go.Proofs.YtdeacankicciaaaDoor
