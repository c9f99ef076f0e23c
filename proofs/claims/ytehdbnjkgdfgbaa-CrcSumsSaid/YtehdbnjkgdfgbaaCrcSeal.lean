/-
  What bytes.Clone, crc.Seal, crc.Open and the reference's Seal answer.
-/
import Derived.Test.YtehdbnjkgdfgbaaCrcBytes
import Derived.Lib.SliceRun
namespace Go.Proofs.Ytehdbnjkgdfgbaa
open Go.RowKit

set_option maxHeartbeats 1000000 in
theorem clone_some (a : Addr) (c : Nat) (l : List Nat) (w : World) (hl : l.length ≤ 1099511627776) (h : BytesIn w (some a) c l) :
    Calls Try.prog 14 #[.slice (some a) l.length c] w fun e w' => ∃ v', e = .returned v' ∧ w'.ownsRow w.heap.size 5 1 v' l.length (bcells l) ∧ v' ≠ .slice none 0 0 ∧ Below w.heap.size w w' := by
  have q22 : ∀ (w : World) (a : Option Addr) (n c n' c' : Nat), (binOp .eql 24 (.slice a n c) (.slice none n' c')).run Try.prog w = .ok (.bool a.isNone) w := fun w a n c n' c' => Lib.run_eql_slice_nil w _ _ a n c n' c' Try.underlying24
  obtain ⟨n, hn⟩ : ∃ n, n = l.length := ⟨_, rfl⟩
  rw [← hn] at hl ⊢
  have HN := Lib.hid hn
  clear hn
  go_enter Try.func14, Try.ntmps14
  go_wp2_with (at_builtin; refine append_bytes rfl _ _ rfl w.heap.size _ _ _ rfl (World.ownsRow_made w #[] 0 (Nat.le_refl _) (Nat.zero_le _) rfl) (some a) n c l rfl HN.out.symm (h.below ((Below.refl _ w).alloc (Nat.le_refl _) _)) (by omega) (by simp) ?_)
  intro v' w1 hown hgrow hnil
  have HG := Lib.hid (show v' ≠ .slice none 0 0 from hnil)
  clear hnil
  go_wp2
  go_ret
  refine ⟨v', rfl, by simpa using hown, ?_, ?_⟩
  · exact HG.out
  · exact ((Below.refl _ w).alloc (Nat.le_refl _) _).grown hgrow (by simp) (by intro k hk; cases hk; exact Nat.le_refl _)

theorem cell_one_new (w : World) (v : Value) (T : TypeId) (j : Nat) (u : Value) (h : [v][j]? = some u) : (w.alloc (.cells #[v] T)).cell? (Addr.add ⟨w.heap.size, 0, none⟩ j) = some u := by
  match j, h with
  | 0, h => simp at h; subst h; simp [Addr.add]

theorem owns_below {w w' : World} {base : Nat} {e : TypeId} {size : Nat} {v : Value} {n : Nat} {xs : List Value} {B : Nat} (h : w.ownsRow base e size v n xs) (hb : Below B w w') (hB : w.heap.size ≤ B) : w'.ownsRow base e size v n xs :=
  h.kept (row := none) ⟨hb.os, hb.tape, hb.output, hb.size, fun k hk _ => hb.block k (by omega)⟩ (by cases hv : v.ownBlock <;> simp)

theorem seal_make (w : World) (n : Nat) (hn : n ≤ 1099511627776) : (Instr.makeSlice 24 (.int .i64 (n : Int)) (.int .i64 ((n : Int) + 4))).run Try.prog w = .ok (.slice (some ⟨w.heap.size, 0, none⟩) n (n + 4)) (w.alloc (.cells (List.replicate (n + 4) (Value.int .u8 0)).toArray 5)) := by
  obtain ⟨i0, hi, hz0, hz1, hz2⟩ := info_parts info_u8
  have h := run_make (P := Try.prog) w 24 5 i0 (.int .u8 0) Try.underlying24 hi hz0 .i64 .i64 (n : Int) ((n : Int) + 4) (by omega) (by omega) (by rw [hz2]; omega) (by omega)
  rw [h]
  have e1 : ((n : Int)).toNat = n := by omega
  have e2 : ((n : Int) + 4).toNat = n + 4 := by omega
  rw [e1, e2, hz1, Nat.mul_one]
  have : madeCells (Value.int .u8 0).cells (n + 4) = (List.replicate (n + 4) (Value.int .u8 0)).toArray := by
    apply Array.toList_inj.1
    exact toList_madeCells_one _ _
  rw [this]

theorem splice_start (n : Nat) (cs : List Value) (h : cs.length = n) (z : Value) : splice (List.replicate (n + 4) z) 0 cs = cs ++ List.replicate 4 z := by
  unfold splice
  simp [h]

set_option maxHeartbeats 1000000 in
theorem seal_any (l : List Nat) (ho : Crc.Octets l) (hl : l.length ≤ 1000000000) (p : Option Addr) (c : Nat) (w : World) (h : BytesIn w p c l) :
    Calls Try.prog 10 #[.slice p l.length c] w fun e w' => ∃ v', e = .returned v' ∧ w'.ownsRow w.heap.size 5 1 v' (l.length + 4) (bcells (l ++ Crc.le4 (Crc.crc l))) ∧ Below w.heap.size w w' := by
  obtain ⟨n, hn⟩ : ∃ n, n = l.length := ⟨_, rfl⟩
  have hmk := seal_make w n (by omega)
  have HN := Lib.hid hn
  rw [← hn] at hl ⊢
  clear hn
  go_enter Try.func10, Try.ntmps10
  go_wp2_with (with_reducible refine wpList_copy_splice rfl (.tmp 12) (.tmp 13) 24 24 rfl 5 Try.underlying24 (by kernel_rfl) (some ⟨w.heap.size, 0, none⟩) p n (n + 4) n c rfl rfl w.heap.size 0 (List.replicate (n + 4) (.int .u8 0)) 5 ((heap_alloc_new _ _).trans (by simp)) (bcells l) (by rw [bcells_len, ← HN.out]; simp) ?_ (by rw [bcells_len, ← HN.out]; simp) (bcells_one l) w.heap.size w ((Below.refl _ w).alloc (Nat.le_refl _) _) (Nat.le_refl _) ?_)
  · intro h0
    rw [bcells_len, ← HN.out] at h0
    cases p with
    | none => have := (h.nil rfl).1; rw [HN.out, this] at h0; simp at h0
    | some ad =>
      refine ⟨ad, rfl, ?_⟩
      intro j u hj
      obtain ⟨hjl, rfl⟩ := bcells_at l j u hj
      exact (h.below ((Below.refl _ w).alloc (Nat.le_refl _) _)).add j hjl
  intro w1 hg1 hb1
  have hown : w1.ownsRow w.heap.size 5 1 (.slice (some ⟨w.heap.size, 0, none⟩) n (n + 4)) n (bcells l) := by
    have hg := hg1.out
    rw [splice_start n _ (by rw [bcells_len]; exact HN.out.symm)] at hg
    refine ⟨by rw [bcells_len, Nat.mul_one]; exact HN.out.symm, .inr ⟨w.heap.size, n + 4, _, rfl, Nat.le_refl _, hg, by omega, by unfold maxLen; omega, ?_, ?_⟩⟩
    · simp [bcells_len, ← HN.out]
    · have : (bcells l).length = n := by rw [bcells_len]; exact HN.out.symm
      simp [← this]
  have hin := h.below hb1
  have hs1 := hb1.size
  clear hg1 hmk
  go_wp2_with fail
  have hsum := sum_one l ho (by rw [← HN.out]; omega) p c w1.heap.size 0 1 (w1.alloc (.cells #[.slice p n c] 24)) (by simp) (by rw [← HN.out]; exact (Lib.cell_of_heap (heap_alloc_new _ _) 0).trans rfl) (hin.below ((Below.refl w1.heap.size w1).alloc (Nat.le_refl _) _)).at_
  refine hsum.mono ?_
  rintro e w2 ⟨rfl, hb2⟩
  have hcl := Crc.crc_lt l ho
  have hb3 : Below w.heap.size w w2 := (hb1.alloc hs1 _).trans (hb2.mono (by simp; omega))
  have hown2 : w2.ownsRow w.heap.size 5 1 (.slice (some ⟨w.heap.size, 0, none⟩) n (n + 4)) n (bcells l) := by
    exact owns_below (hown.alloc _) hb2 (Nat.le_refl _)
  obtain ⟨S, hS⟩ : ∃ S, S = Crc.crc l := ⟨_, rfl⟩
  rw [← hS] at hcl ⊢
  have HS := Lib.hid hS
  clear hS hown hb1 hb2 hsum hin
  go_wp2
  obtain ⟨x0, h0⟩ : ∃ x, x = S % 256 := ⟨_, rfl⟩
  obtain ⟨x1, h1⟩ : ∃ x, x = S / 256 % 256 := ⟨_, rfl⟩
  obtain ⟨x2, h2⟩ : ∃ x, x = S / 65536 % 256 := ⟨_, rfl⟩
  obtain ⟨x3, h3⟩ : ∃ x, x = S / 16777216 := ⟨_, rfl⟩
  have HX := Lib.hid (show Crc.le4 S = [x0, x1, x2, x3] by rw [h0, h1, h2, h3, ← Nat.mod_eq_of_lt (show S / 16777216 < 256 by omega)]; simp [Crc.le4])
  have g0 : (S : Int) % 256 = (x0 : Int) := by omega
  have g1 : (S : Int) / 256 % 256 = (x1 : Int) := by omega
  have g2 : (S : Int) / 65536 % 256 = (x2 : Int) := by omega
  have g3 : (S : Int) / 16777216 = (x3 : Int) := by omega
  have g4 : (x3 : Int) % 256 = (x3 : Int) := by omega
  clear h0 h1 h2 h3
  obtain ⟨i0, hi, hz0, hz1, hz2⟩ := info_parts info_u8
  go_loopw [3, 18] (fun v i wr => ∃ k : Nat, k ≤ 4 ∧ i = .int .i64 k ∧ wr.ownsRow w.heap.size 5 1 v (n + k) (bcells (l ++ [x0, x1, x2, x3].take k)) ∧ Below w.heap.size w wr) (fun _ i _ => 4 - (intOf i).toNat)
  case atStart => exact ⟨0, by omega, rfl, by simpa using hown2, hb3⟩
  case round =>
    clear hown2
    obtain ⟨k, hk, rfl, hown, HB⟩ := hrel
    match k, hk with
    | 0, _ =>
      go_wp2_with (at_builtin; refine wpList_append_own _ rfl _ _ 24 rfl w.heap.size 5 i0 (.int .u8 0) 1 1 Try.underlying24 hi hz0 hz1 hz2 rfl (by decide) _ _ _ rfl (hown.alloc _) ⟨wr.heap.size, 0, none⟩ 1 1 [.int .u8 (x0 : Nat)] rfl rfl (cell_one_new _ _ _) (by intro u hu; simp at hu; subst hu; rfl) (by unfold maxLen; omega) (by omega) (by have := HB.size; simp; omega) ?_)
      intro v' w3 hown' hgrow _
      have HO := Lib.hid (show w3.ownsRow w.heap.size 5 1 v' (n + 1) (bcells (l ++ [x0, x1, x2, x3].take 1)) by simpa [bcells] using hown')
      have HB' := (HB.alloc HB.size _).grown hgrow (by have := HB.size; simp; omega) (fun k hk => (hown.lt k hk).1)
      clear hown' hgrow
      go_wp2
      go_roundw
      case rel => exact ⟨1, by omega, rfl, HO.out, HB'⟩
      case measure => simp [intOf]
    | 1, _ =>
      go_wp2_with (at_builtin; refine wpList_append_own _ rfl _ _ 24 rfl w.heap.size 5 i0 (.int .u8 0) 1 1 Try.underlying24 hi hz0 hz1 hz2 rfl (by decide) _ _ _ rfl (hown.alloc _) ⟨wr.heap.size, 0, none⟩ 1 1 [.int .u8 (x1 : Nat)] rfl rfl (cell_one_new _ _ _) (by intro u hu; simp at hu; subst hu; rfl) (by unfold maxLen; omega) (by omega) (by have := HB.size; simp; omega) ?_)
      intro v' w3 hown' hgrow _
      have HO := Lib.hid (show w3.ownsRow w.heap.size 5 1 v' (n + 2) (bcells (l ++ [x0, x1, x2, x3].take 2)) by simpa [bcells] using hown')
      have HB' := (HB.alloc HB.size _).grown hgrow (by have := HB.size; simp; omega) (fun k hk => (hown.lt k hk).1)
      clear hown' hgrow
      go_wp2
      go_roundw
      case rel => exact ⟨2, by omega, rfl, HO.out, HB'⟩
      case measure => simp [intOf]
    | 2, _ =>
      go_wp2_with (at_builtin; refine wpList_append_own _ rfl _ _ 24 rfl w.heap.size 5 i0 (.int .u8 0) 1 1 Try.underlying24 hi hz0 hz1 hz2 rfl (by decide) _ _ _ rfl (hown.alloc _) ⟨wr.heap.size, 0, none⟩ 1 1 [.int .u8 (x2 : Nat)] rfl rfl (cell_one_new _ _ _) (by intro u hu; simp at hu; subst hu; rfl) (by unfold maxLen; omega) (by omega) (by have := HB.size; simp; omega) ?_)
      intro v' w3 hown' hgrow _
      have HO := Lib.hid (show w3.ownsRow w.heap.size 5 1 v' (n + 3) (bcells (l ++ [x0, x1, x2, x3].take 3)) by simpa [bcells] using hown')
      have HB' := (HB.alloc HB.size _).grown hgrow (by have := HB.size; simp; omega) (fun k hk => (hown.lt k hk).1)
      clear hown' hgrow
      go_wp2
      go_roundw
      case rel => exact ⟨3, by omega, rfl, HO.out, HB'⟩
      case measure => simp [intOf]
    | 3, _ =>
      go_wp2_with (at_builtin; refine wpList_append_own _ rfl _ _ 24 rfl w.heap.size 5 i0 (.int .u8 0) 1 1 Try.underlying24 hi hz0 hz1 hz2 rfl (by decide) _ _ _ rfl (hown.alloc _) ⟨wr.heap.size, 0, none⟩ 1 1 [.int .u8 (x3 : Nat)] rfl rfl (cell_one_new _ _ _) (by intro u hu; simp at hu; subst hu; rfl) (by unfold maxLen; omega) (by omega) (by have := HB.size; simp; omega) ?_)
      intro v' w3 hown' hgrow _
      have HO := Lib.hid (show w3.ownsRow w.heap.size 5 1 v' (n + 4) (bcells (l ++ [x0, x1, x2, x3].take 4)) by simpa [bcells] using hown')
      have HB' := (HB.alloc HB.size _).grown hgrow (by have := HB.size; simp; omega) (fun k hk => (hown.lt k hk).1)
      clear hown' hgrow
      go_wp2
      go_roundw
      case rel => exact ⟨4, by omega, rfl, HO.out, HB'⟩
      case measure => simp [intOf]
    | 4, _ =>
      go_wp2
      go_ret
      refine ⟨_, rfl, ?_, HB⟩
      rw [← HS.out, HX.out]
      exact hown
end Go.Proofs.Ytehdbnjkgdfgbaa
