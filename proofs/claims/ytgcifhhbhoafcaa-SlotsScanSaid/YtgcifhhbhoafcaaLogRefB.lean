/-
  The reference: noughts behind.
-/
import Derived.Test.YtgcifhhbhoafcaaLogRefA
import Derived.Test.YtgcifhhbhoafcaaCrcRef
namespace Go.Proofs.Ytgcifhhbhoafcaa
open Go.RowKit Go.Shelf

set_option maxRecDepth 20000 in
set_option maxHeartbeats 1000000 in
theorem fill_any (l : List UInt8) (hl : l.length ≤ 64) (w : World) :
    Calls Try.prog 70 #[.string (bs l)] w fun e w' => e = .returned (.string (bs (l ++ List.replicate (64 - l.length) 0))) ∧ Below w.heap.size w w' := by
  obtain ⟨st, hst⟩ : ∃ st, st = bs l := ⟨_, rfl⟩
  obtain ⟨m, hm⟩ : ∃ m, m = 64 - l.length := ⟨_, rfl⟩
  have hsz : st.size = l.length := by rw [hst, bs_size]
  have HST := Lib.hid hst
  have HM := Lib.hid hm
  have e1 : (64 : Int) - (st.size : Int) = (m : Int) := by omega
  have hs7 : st.size ≤ 64 := by omega
  have hm6 : m ≤ 64 := by omega
  have hbd : st.size + m < 9223372036854775808 := by omega
  have hmk := make_u8 w m (by omega)
  have hs1 := heap_new w (.cells (List.replicate m (Value.int .u8 0)).toArray 5)
  have hb1 : Below w.heap.size w (w.alloc (.cells (List.replicate m (Value.int .u8 0)).toArray 5)) := bA (Below.refl _ _) _
  obtain ⟨W1, hW1⟩ : ∃ W1, w.alloc (.cells (List.replicate m (Value.int .u8 0)).toArray 5) = W1 := ⟨_, rfl⟩
  rw [hW1] at hs1 hb1 hmk
  have hcv := run_str (c := m) (l := List.replicate m 0) (w := W1) (b := w.heap.size) (o := 0) (in_block (by rw [hs1]; simp [bCells]))
  rw [List.length_replicate] at hcv
  obtain ⟨sz, hsz2⟩ : ∃ sz, bs (List.replicate m 0) = sz := ⟨_, rfl⟩
  have hzs : sz.size = m := by rw [← hsz2, bs_size, List.length_replicate]
  have hbd2 : st.size + sz.size < 9223372036854775808 := by omega
  rw [hsz2] at hcv
  have HSZ := Lib.hid hsz2
  have HB1 := Lib.hid hb1
  rw [← hst, ← hm]
  clear hst hsz hm hs1 hW1 hsz2 hb1
  go_enter Try.func70, Try.ntmps70
  go_wp2
  go_ret
  exact ⟨by rw [HST.out, ← HSZ.out, bs_app]; rfl, HB1.out⟩

theorem bytes_at {w : World} {b o : Nat} {l : List UInt8} (h : w.rangeAt b o (bCells l)) : BytesAt w (some ⟨b, o, none⟩) (octs l) := fun _ => ⟨b, o, rfl, fun i hi => by
  rw [octs_len] at hi
  refine h i _ ?_
  simp [bCells, octs, List.getElem?_eq_getElem hi, List.getD_eq_getElem?_getD]⟩

/-- A record's header as three numbers, padded. -/
theorem hdr_fill (stamp : Nat) (body : List UInt8) : ((82 : UInt8) :: (be 8 stamp ++ be 4 body.length ++ be 4 (crcB body))) ++ List.replicate (64 - ((82 : UInt8) :: (be 8 stamp ++ be 4 body.length ++ be 4 (crcB body))).length) 0 = hdr stamp body := by
  simp [hdr, be_len]

set_option maxRecDepth 20000 in
set_option maxHeartbeats 4000000 in
theorem record_any (stamp : Nat) (hst : stamp < 9223372036854775808) (b o c : Nat) (body : List UInt8) (hl : body.length ≤ 100000) (w : World) (hr : w.rangeAt b o (bCells body)) :
    Calls Try.prog 54 #[.int .i64 stamp, .slice (some ⟨b, o, none⟩) body.length c] w fun e w' => ∃ v, e = .returned (.tuple #[.string (bs (hdr stamp body)), v]) ∧ w'.ownsRow w.heap.size 9 1 v (packed body).length (sCells (packed body)) ∧ Below w.heap.size w w' := by
  obtain ⟨L, hL⟩ : ∃ L, L = body.length := ⟨_, rfl⟩
  have HL := Lib.hid hL
  have hsum := fun W H => refsum_any (octs body) (octs_ok body) (by rw [octs_len]; omega) (some ⟨b, o, none⟩) c W H
  rw [octs_len, ← hL] at hsum
  rw [← hL] at hl ⊢
  have HR := Lib.hid hr
  have HSUM := Lib.hid hsum
  clear hL hr hsum
  go_enter Try.func54, Try.ntmps54
  go_wp2_with fail
  refine (lay_any stamp 8 (by decide) hst w).mono ?_
  rintro e w1 ⟨rfl, hb1⟩
  obtain ⟨s8, hs8⟩ : ∃ s, s = bs (be 8 stamp) := ⟨_, rfl⟩
  have hz8 : s8.size = 8 := by rw [hs8, bs_size, be_len]
  rw [← hs8]
  have H8 := Lib.hid (show s8 = bs (be 8 stamp) ∧ Below w.heap.size w w1 from ⟨hs8, hb1⟩)
  clear hs8 hb1
  go_wp2_with fail
  refine (lay_any L 4 (by decide) (by omega) w1).mono ?_
  rintro e w2 ⟨rfl, hb2⟩
  obtain ⟨s4, hs4⟩ : ∃ s, s = bs (be 4 L) := ⟨_, rfl⟩
  have hz4 : s4.size = 4 := by rw [hs4, bs_size, be_len]
  rw [← hs4]
  have H4 := Lib.hid (show s4 = bs (be 4 L) ∧ Below w.heap.size w w2 from ⟨hs4, H8.out.2.trans (hb2.mono H8.out.2.size)⟩)
  clear hs4 hb2
  go_wp2_with fail
  refine (HSUM.out w2 (bytes_at ((Chg.below H4.out.2 (fun _ => False)).range HR.out (fun e => e)))).mono ?_
  rintro e w3 ⟨rfl, hw3⟩
  obtain rfl := hw3
  obtain ⟨cc, hcc⟩ : ∃ cc, cc = Crc.crc (octs body) := ⟨_, rfl⟩
  have hcl : cc < 4294967296 := by rw [hcc]; exact crcB_lt body
  rw [← hcc]
  have HCC := Lib.hid (show cc = crcB body from hcc)
  clear hcc
  go_wp2_with fail
  refine (lay_any cc 4 (by decide) (by omega) w2).mono ?_
  rintro e w3 ⟨rfl, hb3⟩
  obtain ⟨t4, ht4⟩ : ∃ s, s = bs (be 4 cc) := ⟨_, rfl⟩
  have hzt : t4.size = 4 := by rw [ht4, bs_size, be_len]
  rw [← ht4]
  have HT := Lib.hid (show t4 = bs (be 4 cc) ∧ Below w.heap.size w w3 from ⟨ht4, H4.out.2.trans (hb3.mono H4.out.2.size)⟩)
  clear ht4 hb3
  have hcv := run_str (c := c) ((Chg.below HT.out.2 (fun _ => False)).range HR.out (fun e => e))
  rw [← HL.out] at hcv
  obtain ⟨sb, hsb⟩ : ∃ s, s = bs body := ⟨_, rfl⟩
  have hzb : sb.size = L := by rw [hsb, bs_size, HL.out]
  rw [← hsb] at hcv
  have HSB := Lib.hid hsb
  clear hsb
  obtain ⟨sh, hsh⟩ : ∃ s, (⟨#[82]⟩ : ByteArray) ++ s8 ++ s4 ++ t4 = s := ⟨_, rfl⟩
  have hzh : sh.size = 17 := by rw [← hsh, ByteArray.size_append, ByteArray.size_append, ByteArray.size_append, hz8, hz4, hzt]; rfl
  have HSH := Lib.hid (show sh = bs ((82 : UInt8) :: (be 8 stamp ++ be 4 body.length ++ be 4 (crcB body))) by
    rw [← hsh, H8.out.1, H4.out.1, HT.out.1, HCC.out, HL.out, show (⟨#[82]⟩ : ByteArray) = bs [82] from rfl, bs_app, bs_app, bs_app]
    simp)
  have HW3 := Lib.hid HT.out.2
  obtain ⟨i0, hi, hz0, hz1, hz2⟩ := info_parts info_strs
  obtain ⟨M, hM⟩ : ∃ M, M = (L + 62) / 63 := ⟨_, rfl⟩
  have HM := Lib.hid hM
  clear HSUM H8 H4 HT hM
  go_wp2
  go_loopw [7, 8] (fun s7 s8 wr => ∃ k pv cv, ∃ sx : ByteArray, k ≤ M ∧ s7 = .slice pv k cv ∧ s8 = .string sx ∧ Hid (sx = bs (body.drop (63 * k))) ∧ Hid (wr.ownsRow w.heap.size 9 1 (.slice pv k cv) k (sCells ((packed body).take k))) ∧ Hid (Below w.heap.size w wr)) (fun s7 _ _ => M - lenOf s7)
  case atStart => exact ⟨0, none, 0, sb, Nat.zero_le _, rfl, rfl, Lib.hid (by rw [HSB.out]; rfl), Lib.hid (World.ownsRow_nil _ _ _ _), HW3⟩
  case round =>
    obtain ⟨k, pv, cv, sx, hk, rfl, rfl, HX, HROW, HB⟩ := hrel
    obtain ⟨m, hm⟩ : ∃ m, m = L - 63 * k := ⟨_, rfl⟩
    have hzx : sx.size = m := by rw [HX.out, bs_size, List.length_drop, hm, HL.out]
    have HQ := Lib.hid hm
    have hmb : m ≤ 100000 := by omega
    by_cases hlt : 0 < m
    · clear hm
      have e1 : decide ((0 : Int) < (m : Int)) = true := decide_eq_true (by omega)
      have e1' : decide (0 < m) = true := decide_eq_true (by omega)
      by_cases h63 : m < 63
      · have e2 : decide ((m : Int) < 63) = true := decide_eq_true (by omega)
        have e2' : decide (m < 63) = true := decide_eq_true (by omega)
        have hP : ({ data := #[0] } : ByteArray) ++ sx.extract 0 m = bs ((0 : UInt8) :: (body.drop (63 * k)).take m) := by
          rw [HX.out, bs_to, show ({ data := #[0] } : ByteArray) = bs [0] from rfl, bs_app]
          rfl
        have hBS : ((0 : UInt8) :: (body.drop (63 * k)).take m) ++ List.replicate (64 - ((0 : UInt8) :: (body.drop (63 * k)).take m).length) 0 = bodyS body k := by
          have e := HL.out
          have e7 := HQ.out
          have hT : (body.drop (63 * k)).take m = (body.drop (63 * k)).take 63 := by
            rw [List.take_of_length_le (by rw [List.length_drop, ← e]; omega), List.take_of_length_le (by rw [List.length_drop, ← e]; omega)]
          unfold bodyS
          rw [hT, List.length_cons, List.length_take, List.length_drop, ← e, List.cons_append]
          congr 3
          omega
        have hBR : ByteArray.empty = bs (body.drop (63 * (k + 1))) := by
          have he : sx.extract m m = ByteArray.empty := by rw [ByteArray.extract_same]
          rw [← he]
          rw [HX.out, bs_from _ _ _ (by rw [List.length_drop, ← HL.out]; exact HQ.out), List.drop_drop]
          have e := HL.out
          have e7 := HQ.out
          rw [List.drop_of_length_le (by omega), List.drop_of_length_le (by omega)]
        have HP := Lib.hid hP
        have HBS := Lib.hid hBS
        have HBR := Lib.hid hBR
        clear hP hBS hBR
        go_wp2_with fail
        rw [HP.out]
        refine (fill_any _ (by rw [List.length_cons, List.length_take]; omega) wr).mono ?_
        rintro e w4 ⟨rfl, hb4⟩
        rw [HBS.out]
        have HB4 := Lib.hid (HB.out.trans (hb4.mono HB.out.size))
        have HROW4 := Lib.hid ((Chg.below hb4 (fun _ => False)).own HROW.out (fun _ _ e => e))
        clear hb4
        obtain ⟨st, hst⟩ : ∃ st, st = bs (bodyS body k) := ⟨_, rfl⟩
        have HST := Lib.hid hst
        rw [← hst]
        clear hst
        have hlit : (w4.alloc (.cells #[.string st] 9)).ownsRow w4.heap.size 9 1 (.slice (some ⟨w4.heap.size, 0, none⟩) 1 1) 1 [.string st] := World.ownsRow_lit w4 #[.string st] 1 (Nat.le_refl _) (by decide) rfl
        have HHIT := Lib.hid hlit
        have HRW := Lib.hid ((Chg.alloc (fun _ => False) w4 (.cells #[.string st] 9)).own HROW4.out (fun _ _ e => e))
        have HBA := Lib.hid (HB4.out.alloc HB4.out.size (.cells #[.string st] 9))
        have HNX := Lib.hid (show sCells ((packed body).take (k + 1)) = sCells ((packed body).take k) ++ [.string (bs (bodyS body k))] by
          rw [List.take_succ_eq_append_getElem (by rw [packed_len, ← HL.out]; have := HQ.out; omega)]
          simp [sCells, packed])
        have hkb : k ≤ 20000 := by have := HM.out; omega
        clear hlit
        go_wp2_with (at_builtin; refine wpList_append_lies _ rfl (.tmp 33) (.tmp 39) 24 rfl w.heap.size 9 i0 (.string ⟨#[]⟩) 1 16 Try.underlying24 hi hz0 hz1 hz2 rfl (by decide) _ k _ rfl HRW.out ⟨w4.heap.size, 0, none⟩ 1 1 [.string st] rfl rfl (HHIT.out.cells rfl) (by simp; rfl) (by decide) (by unfold maxLen; omega) (by omega) HBA.out.size _ rfl ?_; intro g7 cap7 w7 hrow7 hg7 _ _; have hb7 : Below w.heap.size w w7 := (Chg.grown hg7).on HBA.out HBA.out.size (fun x hx => (HRW.out.lt x hx.symm).1); have HR7 := Lib.hid (show _ ∧ _ from ⟨hrow7, hb7⟩); clear hrow7 hg7 hb7)
        go_roundw
        case rel =>
          refine ⟨k + 1, some ⟨g7, 0, none⟩, cap7, _, by have := HM.out; have := HQ.out; omega, rfl, rfl, HBR, Lib.hid ?_, Lib.hid HR7.out.2⟩
          have h := HR7.out.1
          rw [HNX.out, ← HST.out]
          exact h
        case measure => simp [lenOf]; have := HM.out; have := HQ.out; omega
      · have e2 : decide ((m : Int) < 63) = false := decide_eq_false (by omega)
        have e2' : decide (m < 63) = false := decide_eq_false (by omega)
        have hP : ({ data := #[0] } : ByteArray) ++ sx.extract 0 63 = bs ((0 : UInt8) :: (body.drop (63 * k)).take 63) := by
          rw [HX.out, bs_to, show ({ data := #[0] } : ByteArray) = bs [0] from rfl, bs_app]
          rfl
        have hBS : ((0 : UInt8) :: (body.drop (63 * k)).take 63) ++ List.replicate (64 - ((0 : UInt8) :: (body.drop (63 * k)).take 63).length) 0 = bodyS body k := by
          have e := HL.out
          have e7 := HQ.out
          have hT : (body.drop (63 * k)).take 63 = (body.drop (63 * k)).take 63 := rfl
          unfold bodyS
          rw [hT, List.length_cons, List.length_take, List.length_drop, ← e, List.cons_append]
          congr 3
          omega
        have hBR : sx.extract 63 m = bs (body.drop (63 * (k + 1))) := by
          skip
          rw [HX.out, bs_from _ _ _ (by rw [List.length_drop, ← HL.out]; exact HQ.out), List.drop_drop]
          have e := HL.out
          have e7 := HQ.out
          rw [show 63 * k + 63 = 63 * (k + 1) by omega]
        have HP := Lib.hid hP
        have HBS := Lib.hid hBS
        have HBR := Lib.hid hBR
        clear hP hBS hBR
        go_wp2_with fail
        rw [HP.out]
        refine (fill_any _ (by rw [List.length_cons, List.length_take]; omega) wr).mono ?_
        rintro e w4 ⟨rfl, hb4⟩
        rw [HBS.out]
        have HB4 := Lib.hid (HB.out.trans (hb4.mono HB.out.size))
        have HROW4 := Lib.hid ((Chg.below hb4 (fun _ => False)).own HROW.out (fun _ _ e => e))
        clear hb4
        obtain ⟨st, hst⟩ : ∃ st, st = bs (bodyS body k) := ⟨_, rfl⟩
        have HST := Lib.hid hst
        rw [← hst]
        clear hst
        have hlit : (w4.alloc (.cells #[.string st] 9)).ownsRow w4.heap.size 9 1 (.slice (some ⟨w4.heap.size, 0, none⟩) 1 1) 1 [.string st] := World.ownsRow_lit w4 #[.string st] 1 (Nat.le_refl _) (by decide) rfl
        have HHIT := Lib.hid hlit
        have HRW := Lib.hid ((Chg.alloc (fun _ => False) w4 (.cells #[.string st] 9)).own HROW4.out (fun _ _ e => e))
        have HBA := Lib.hid (HB4.out.alloc HB4.out.size (.cells #[.string st] 9))
        have HNX := Lib.hid (show sCells ((packed body).take (k + 1)) = sCells ((packed body).take k) ++ [.string (bs (bodyS body k))] by
          rw [List.take_succ_eq_append_getElem (by rw [packed_len, ← HL.out]; have := HQ.out; omega)]
          simp [sCells, packed])
        have hkb : k ≤ 20000 := by have := HM.out; omega
        clear hlit
        go_wp2_with (at_builtin; refine wpList_append_lies _ rfl (.tmp 33) (.tmp 39) 24 rfl w.heap.size 9 i0 (.string ⟨#[]⟩) 1 16 Try.underlying24 hi hz0 hz1 hz2 rfl (by decide) _ k _ rfl HRW.out ⟨w4.heap.size, 0, none⟩ 1 1 [.string st] rfl rfl (HHIT.out.cells rfl) (by simp; rfl) (by decide) (by unfold maxLen; omega) (by omega) HBA.out.size _ rfl ?_; intro g7 cap7 w7 hrow7 hg7 _ _; have hb7 : Below w.heap.size w w7 := (Chg.grown hg7).on HBA.out HBA.out.size (fun x hx => (HRW.out.lt x hx.symm).1); have HR7 := Lib.hid (show _ ∧ _ from ⟨hrow7, hb7⟩); clear hrow7 hg7 hb7)
        go_roundw
        case rel =>
          refine ⟨k + 1, some ⟨g7, 0, none⟩, cap7, _, by have := HM.out; have := HQ.out; omega, rfl, rfl, HBR, Lib.hid ?_, Lib.hid HR7.out.2⟩
          have h := HR7.out.1
          rw [HNX.out, ← HST.out]
          exact h
        case measure => simp [lenOf]; have := HM.out; have := HQ.out; omega
    · have hkM : k = M := by have := HM.out; omega
      obtain rfl : m = 0 := by omega
      have e1 : sx.size = 0 := hzx
      have HFIN := Lib.hid (show ((packed body).take k) = packed body from List.take_of_length_le (by rw [packed_len, ← HL.out]; have := HM.out; omega))
      have HLEN := Lib.hid (show k = (packed body).length by rw [packed_len, ← HL.out, hkM]; exact HM.out)
      clear hkM hm
      go_wp2_with fail
      rw [HSH.out]
      refine (fill_any _ (by simp [be_len]) wr).mono ?_
      rintro e w4 ⟨rfl, hb4⟩
      rw [hdr_fill]
      have HB4 := Lib.hid (HB.out.trans (hb4.mono HB.out.size))
      have HROW4 := Lib.hid ((Chg.below hb4 (fun _ => False)).own HROW.out (fun _ _ e => e))
      clear hb4
      go_wp2
      refine bodyPost_ret (results_tmp2 rfl _ _ _) rfl ?_
      exact ⟨_, rfl, by have h := HROW4.out; rw [HFIN.out] at h; rw [← HLEN.out]; exact h, HB4.out⟩
end Go.Proofs.Ytgcifhhbhoafcaa
