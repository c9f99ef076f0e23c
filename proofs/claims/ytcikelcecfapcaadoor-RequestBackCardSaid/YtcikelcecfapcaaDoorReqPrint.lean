/-
  request.Print's closure that appends a line's parts and its end. slices.ContainsFunc of a word that is too long. request.Print.
-/
import Derived.Test.YtcikelcecfapcaaDoorReqRefP
namespace Go.Proofs.YtcikelcecfapcaaDoor
open Go.RowKit Rp Rq

set_option maxRecDepth 20000 in
set_option maxHeartbeats 2000000 in
theorem line_anyq (B G cap : Nat) (v : Value) (xs : List UInt8) (ps : List (List UInt8)) (w : World) (hO : Out B v xs w) (hG : G ≠ B) (hGn : G < B ∨ NoBytes w G) (hGl : G < w.heap.size)
    (hc : ∀ j (h : j < ps.length), w.cell? ⟨G, j, none⟩ = some (.string (bs ps[j]))) (hl : ps.length ≤ 1099511627776) (hlen : xs.length + ps.flatten.length + 2 ≤ 1099511627776) :
    Calls Tryd.prog 49 #[.slice (some ⟨G, 0, none⟩) ps.length cap, .pointer (some ⟨B, 0, none⟩)] w fun e w' => e = .returned (.tuple #[]) ∧ ∃ v', Out B v' (xs ++ (ps.flatten ++ [13, 10])) w' ∧ Wrote B w w' := by
  obtain ⟨i0, hi, hz0, hz1, hz2⟩ := info_parts info_u8
  obtain ⟨M, hM⟩ : ∃ M, M = ps.length := ⟨_, rfl⟩
  rw [← hM] at hl ⊢
  have HM := Lib.hid hM
  have HC := Lib.hid hc
  clear hM hc
  go_enter Tryd.func49, Tryd.ntmps49
  go_wp2
  go_loopw [4, 7] (fun _ i wr => ∃ (j : Nat) (u : Value) (X : List UInt8), j ≤ M ∧ i = .int .i64 j ∧ Hid (X = xs ++ joined ps j) ∧ Out B u X wr ∧ Wrote B w wr) (fun _ i _ => M - (intOf i).toNat)
  case atStart => exact ⟨0, v, xs, Nat.zero_le _, rfl, Lib.hid (by simp [joined]), hO, Wrote.refl B w⟩
  case round =>
    obtain ⟨j, u, X, hj, rfl, HX, hO1, hW⟩ := hrel
    have cB : wr.cell? ⟨B, 0, none⟩ = some u := by rw [Lib.cell_of_heap hO1.var]; rfl
    have fB := frozen_at hO1.var
    have hsz := hO1.lt
    by_cases hjl : j < M
    · have hd1 : decide ((j : Int) < (M : Int)) = true := decide_eq_true (by omega)
      have hja : j < ps.length := by have := HM.out; omega
      have cG := (World.cell?_of_block (a := ⟨G, j, none⟩) (hW.block G hGl hG hGn)).trans (HC.out j hja)
      have hJ := joined_le ps j hja
      have HN := Lib.hid (joined_next ps j hja)
      have hpl := bs_size ps[j]
      have HP := Lib.hid (sCells_bs ps[j])
      have HO := Lib.hid hO1
      clear hO1
      generalize ps[j] = part at *
      generalize joined ps j = done at *
      have hown := HO.out.row
      generalize hS : bs part = S at *
      have HS := Lib.hid hS
      have HL := Lib.hid hpl
      clear hS hpl hja
      have hpart : X.length + S.size ≤ 1099511627776 := by rw [HX.out, List.length_append, HL.out]; omega
      go_wp2_with (at_builtin; refine Lib.wpList_append_own_string _ rfl (.tmp 11) (.tmp 12) 22 9 rfl (B + 1) 5 i0 Tryd.underlying22 Tryd.underlying9 hi hz0 hz1 hz2 u _ _ rfl hown S rfl (by unfold maxLen; omega) (by omega) (by omega) ?_)
      intro u' w1 hown1 hgrow hnil
      clear hnil
      obtain ⟨m1, m2⟩ := mine HO.out hgrow
      obtain ⟨ua, un, uc, rfl⟩ := row_slice hown1
      have hyl : (X ++ part).length = X.length + S.size := by rw [List.length_append, HL.out]
      have hput := HO.out.put (ys := X ++ part) hgrow (by rw [hyl, sCells_append, ← HP.out]; exact hown1)
      have HPU := Lib.hid hput
      clear hput hown1 hgrow hown hyl
      go_wp2
      go_roundw
      case rel => exact ⟨j + 1, _, X ++ part, by omega, by go_num, Lib.hid (by rw [HN.out, HX.out, List.append_assoc]), HPU.out.1, hW.trans HPU.out.2⟩
      case measure => simp [intOf]; omega
    · have hd1 : decide ((j : Int) < (M : Int)) = false := decide_eq_false (by omega)
      obtain rfl : j = M := by omega
      have hown := hO1.row
      have HO := Lib.hid hO1
      have HJ := Lib.hid (show joined ps j = ps.flatten by rw [HM.out]; exact joined_all ps)
      clear hO1
      have hlj : (joined ps j).length = ps.flatten.length := by rw [HJ.out]
      generalize joined ps j = done at *
      have hpart : X.length + 2 ≤ 1099511627776 := by rw [HX.out, List.length_append]; omega
      have HLJ := Lib.hid hlj
      clear hlj
      go_wp2_with (at_builtin; refine Lib.wpList_append_own_string _ rfl (.tmp 15) (.const (.string ⟨#[13, 10]⟩)) 22 9 rfl (B + 1) 5 i0 Tryd.underlying22 Tryd.underlying9 hi hz0 hz1 hz2 u _ _ rfl hown ⟨#[13, 10]⟩ rfl (by unfold maxLen; show _ + 2 ≤ _; omega) (by show _ + 2 ≤ _; omega) (by omega) ?_)
      intro u' w1 hown1 hgrow hnil
      clear hnil
      obtain ⟨m1, m2⟩ := mine HO.out hgrow
      obtain ⟨ua, un, uc, rfl⟩ := row_slice hown1
      have hput := HO.out.put (ys := X ++ [13, 10]) hgrow (by rw [List.length_append, sCells_append]; exact hown1)
      have HPU := Lib.hid hput
      clear hput hown1 hgrow hown
      go_wp2
      go_end0
      exact ⟨rfl, _, by have h := HPU.out.1; rw [HX.out, HJ.out, List.append_assoc] at h; exact h, hW.trans HPU.out.2⟩
end Go.Proofs.YtcikelcecfapcaaDoor

namespace Go.Proofs.YtcikelcecfapcaaDoor
open Go.RowKit Rp

theorem line2q {B : Nat} {v : Value} {xs : List UInt8} {w : World} (hO : Out B v xs w) (G : Nat) (a b : List UInt8) (A C : ByteArray) (hG : w.heap[G]? = some (.cells #[.string A, .string C] 9 (0, 0))) (hA : A = bs a) (hC : C = bs b) (hlen : xs.length + (a.length + b.length) + 2 ≤ 1099511627776) :
    Calls Tryd.prog 49 #[.slice (some ⟨G, 0, none⟩) 2 2, .pointer (some ⟨B, 0, none⟩)] w (Wr B w (xs ++ (a ++ (b ++ [13, 10])))) := by
  subst hA hC
  have hne : G ≠ B := fun e => by
    subst e
    have := hO.var
    rw [hG] at this
    simp at this
  have h := line_anyq B G 2 v xs [a, b] w hO hne (.inr (noBytes_of hG (by decide))) (Array.getElem?_eq_some_iff.1 hG).1 (fun j hj => ?_) (by show 2 ≤ 1099511627776; omega) (by simpa using hlen)
  · have e : xs ++ ([a, b].flatten ++ [13, 10]) = xs ++ (a ++ (b ++ [13, 10])) := by simp
    rw [e] at h
    exact h
  · match j, hj with
    | 0, _ => rw [Lib.cell_of_heap hG]; rfl
    | 1, _ => rw [Lib.cell_of_heap hG]; rfl

theorem line1q {B : Nat} {v : Value} {xs : List UInt8} {w : World} (hO : Out B v xs w) (G : Nat) (a : List UInt8) (A : ByteArray) (hG : w.heap[G]? = some (.cells #[.string A] 9 (0, 0))) (hA : A = bs a) (hlen : xs.length + a.length + 2 ≤ 1099511627776) :
    Calls Tryd.prog 49 #[.slice (some ⟨G, 0, none⟩) 1 1, .pointer (some ⟨B, 0, none⟩)] w (Wr B w (xs ++ (a ++ [13, 10]))) := by
  subst hA
  have hne : G ≠ B := fun e => by
    subst e
    have := hO.var
    rw [hG] at this
    simp at this
  have h := line_anyq B G 1 v xs [a] w hO hne (.inr (noBytes_of hG (by decide))) (Array.getElem?_eq_some_iff.1 hG).1 (fun j hj => ?_) (by show 1 ≤ 1099511627776; omega) (by simpa using hlen)
  · have e : xs ++ ([a].flatten ++ [13, 10]) = xs ++ (a ++ [13, 10]) := by simp
    rw [e] at h
    exact h
  · match j, hj with
    | 0, _ => rw [Lib.cell_of_heap hG]; rfl
end Go.Proofs.YtcikelcecfapcaaDoor

namespace Go.Proofs.YtcikelcecfapcaaDoor
open Go.RowKit Rp Rq

theorem toolong_any (S : ByteArray) (w : World) :
    Calls Tryd.prog 47 #[.string S] w fun e w' => e = .returned (.bool (decide ((4096 : Int) < (S.size : Int)))) ∧ w = w' := by
  go_enter Tryd.func47, Tryd.ntmps47
  go_wp2
  go_ret
  exact ⟨rfl, rfl⟩

def long (x : Wd) : Prop := 4096 < x.length
set_option maxRecDepth 20000 in
set_option maxHeartbeats 2000000 in
theorem indexlong_any (ws : List Wd) (n : Nat) (hn : ws.length = n) (hm : n ≤ 1000000000) (g o c : Nat) (w : World) (ha : WAt w g o ws) :
    Calls Tryd.prog 63 #[.slice (some ⟨g, o, none⟩) n c, .func (.func 47) #[] #[]] w fun e w' => ∃ r : Int, e = .returned (.int .i64 r) ∧ (0 ≤ r ↔ ∃ x ∈ ws, long x) ∧ w = w' := by
  have HA := Lib.hid ha
  have HN := Lib.hid hn
  clear ha hn
  go_enter Tryd.func63, Tryd.ntmps63
  go_wp2_with fail
  go_loopw [8] (fun s8 wr => ∃ k : Nat, k ≤ n ∧ s8 = .int .i64 k ∧ Hid (∀ x ∈ ws.take k, ¬ long x) ∧ wr = w) (fun s8 _ => n - (intOf s8).toNat)
  case atStart => exact ⟨0, Nat.zero_le _, rfl, Lib.hid (fun x hx => by simp at hx), rfl⟩
  case round =>
    obtain ⟨k, hk, rfl, HI, rfl⟩ := hrel
    by_cases hlt : k < n
    · have hd1 : decide ((k : Int) < (n : Int)) = true := decide_eq_true (by omega)
      have hkw : k < ws.length := by have := HN.out; omega
      have k0 := HA.out k hkw
      have HNX := Lib.hid (fun (h : ¬ long ws[k]) => (show ∀ x ∈ ws.take (k + 1), ¬ long x from fun x hx => by
        rw [List.take_succ_eq_append_getElem hkw] at hx
        rcases List.mem_append.1 hx with hx | hx
        · exact HI.out x hx
        · obtain rfl : x = ws[k] := by simpa using hx
          exact h))
      have HYE := Lib.hid (fun (h : long ws[k]) => (⟨ws[k], List.getElem_mem hkw, h⟩ : ∃ x ∈ ws, long x))
      obtain ⟨x, hx⟩ : ∃ x, ws[k] = x := ⟨_, rfl⟩
      rw [hx] at k0 HNX HYE
      obtain ⟨X, hX⟩ : ∃ X, X = bs x := ⟨_, rfl⟩
      have HXS := Lib.hid (show X.size = x.length by rw [hX, bs_size])
      rw [← hX] at k0
      have HTL := Lib.hid (toolong_any X)
      clear hX hx
      go_wp2_with fail
      refine (HTL.out _).mono ?_
      rintro e w1 ⟨rfl, rfl⟩
      by_cases hbig : 4096 < X.size
      · have HE := Lib.hid (HYE.out (by have := HXS.out; unfold long; omega))
        rw [show decide ((4096 : Int) < (X.size : Int)) = true from decide_eq_true (by omega)]
        go_wp2
        go_ret
        exact ⟨_, rfl, ⟨fun _ => HE.out, fun _ => by omega⟩, rfl⟩
      · have HE := Lib.hid (HNX.out (by have := HXS.out; unfold long; omega))
        rw [show decide ((4096 : Int) < (X.size : Int)) = false from decide_eq_false (by omega)]
        go_wp2_with fail
        go_roundw
        case rel => exact ⟨k + 1, by omega, by go_num, HE, trivial⟩
        case measure => simp [intOf]; omega
    · have hd1 : decide ((k : Int) < (n : Int)) = false := decide_eq_false (by omega)
      have HE := Lib.hid (show ¬ ∃ x ∈ ws, long x from fun ⟨x, hx, h⟩ => HI.out x (by rw [List.take_of_length_le (by have := HN.out; omega)]; exact hx) h)
      go_wp2
      go_ret
      exact ⟨_, rfl, ⟨fun h => absurd h (by decide), fun h => absurd h HE.out⟩, rfl⟩

theorem contains_long (ws : List Wd) (n : Nat) (hn : ws.length = n) (hm : n ≤ 1000000000) (g o c : Nat) (w : World) (ha : WAt w g o ws) (z : Bool) (hz : z = true ↔ ∃ x ∈ ws, long x) :
    Calls Tryd.prog 48 #[.slice (some ⟨g, o, none⟩) n c, .func (.func 47) #[] #[]] w fun e w' => e = .returned (.bool z) ∧ w = w' := by
  have HI := Lib.hid (indexlong_any ws n hn hm g o c w ha)
  have HZ := Lib.hid hz
  clear ha hz hn
  go_enter Tryd.func48, Tryd.ntmps48
  go_wp2_with fail
  refine HI.out.mono ?_
  rintro e w1 ⟨r, rfl, hr, rfl⟩
  have hd : decide (0 ≤ r) = z := by
    rw [Bool.eq_iff_iff, decide_eq_true_iff, hr]
    exact HZ.out.symm
  clear hr
  go_wp2
  go_ret
  exact ⟨rfl, rfl⟩
end Go.Proofs.YtcikelcecfapcaaDoor

namespace Go.Proofs.YtcikelcecfapcaaDoor
open Go.RowKit Rp Rq

/-- What Print answers. -/
def PrintV (w : World) (ws : List Wd) (e : Ending) (w' : World) : Prop := (∃ v, e = .returned v ∧ w'.ownsRow w.heap.size 5 1 v (printQ ws).length (sCells (printQ ws))) ∧ Below w.heap.size w w'

theorem print_none (ws : List Wd) (p : Option Addr) (c : Nat) (h : ws.length = 0 ∨ 128 < ws.length) (w : World) :
    Calls Tryd.prog 25 #[.slice p ws.length c] w (PrintV w ws) := by
  have e : printQ ws = [] := by
    unfold printQ
    rw [if_pos (h.imp List.eq_nil_of_length_eq_zero .inl)]
  unfold PrintV
  rw [e]
  generalize ws.length = n at *
  clear e
  rcases h with rfl | h
  · go_enter Tryd.func25, Tryd.ntmps25
    go_wp2
    go_ret
    exact ⟨⟨_, rfl, World.ownsRow_nil _ _ _ _⟩, Below.refl _ _⟩
  · have h0 : ((n : Int) == 0) = false := by rw [beq_eq_false_iff_ne]; omega
    have h1 : decide ((128 : Int) < (n : Int)) = true := decide_eq_true (by omega)
    go_enter Tryd.func25, Tryd.ntmps25
    go_wp2
    go_ret
    exact ⟨⟨_, rfl, World.ownsRow_nil _ _ _ _⟩, Below.refl _ _⟩

theorem print_long (ws : List Wd) (n : Nat) (hn : ws.length = n) (h0 : 0 < n) (h1 : n ≤ 128) (hl : ∃ x ∈ ws, long x) (g o c : Nat) (w : World) (ha : WAt w g o ws) :
    Calls Tryd.prog 25 #[.slice (some ⟨g, o, none⟩) n c] w (PrintV w ws) := by
  have e : printQ ws = [] := by
    unfold printQ
    rw [if_pos (.inr (.inr hl))]
  unfold PrintV
  rw [e]
  have HC := Lib.hid (contains_long ws n hn (by omega) g o c w ha true ⟨fun _ => hl, fun _ => rfl⟩)
  have hz : ((n : Int) == 0) = false := by rw [beq_eq_false_iff_ne]; omega
  have hd : decide ((128 : Int) < (n : Int)) = false := decide_eq_false (by omega)
  clear e hl ha hn
  go_enter Tryd.func25, Tryd.ntmps25
  go_wp2_with fail
  refine HC.out.mono ?_
  rintro e w1 ⟨rfl, rfl⟩
  go_wp2
  go_ret
  exact ⟨⟨_, rfl, World.ownsRow_nil _ _ _ _⟩, Below.refl _ _⟩

/-- What has been written before word k. -/
def headQ (ws : List Wd) (k : Nat) : List UInt8 := 42 :: (Lib.itoa (ws.length : Int) ++ 13 :: 10 :: ((ws.take k).map encW).flatten)
theorem headQ_next {ws : List Wd} {k : Nat} (h : k < ws.length) : headQ ws (k + 1) = (headQ ws k ++ ([36] ++ (Lib.itoa (ws[k].length : Int) ++ [13, 10]))) ++ (ws[k] ++ [13, 10]) := by
  unfold headQ
  rw [List.take_succ_eq_append_getElem h, List.map_append, List.flatten_append, List.map_cons, List.map_nil, encW]
  simp [-List.map_take]
theorem headQ_end {ws : List Wd} (h0 : 0 < ws.length) (h1 : ws.length ≤ 128) (hl : ¬ ∃ x ∈ ws, long x) {k : Nat} (hk : ¬ k < ws.length) : headQ ws k = printQ ws := by
  unfold printQ headQ
  rw [if_neg, List.take_of_length_le (by omega)]
  · rfl
  · rintro (h | h | h)
    · rw [h] at h0; simp at h0
    · omega
    · exact hl h
theorem headQ_len {ws : List Wd} (h1 : ws.length ≤ 128) (hl : ¬ ∃ x ∈ ws, long x) (k : Nat) : (headQ ws k).length ≤ 1000000 := by
  have h2 := flat_len (ws.take k) (fun x hx => by
    have : ¬ long x := fun h => hl ⟨x, List.mem_of_mem_take hx, h⟩
    unfold long at this
    omega)
  have h3 := itoa_len (ws.length : Int) (by omega) (by omega)
  have h4 : (ws.take k).length ≤ 128 := by rw [List.length_take]; omega
  unfold headQ
  rw [List.length_cons, List.length_append, List.length_cons, List.length_cons]
  omega

set_option maxRecDepth 20000 in
set_option maxHeartbeats 2000000 in
theorem print_some (ws : List Wd) (n : Nat) (hn : ws.length = n) (h0 : 0 < n) (h1 : n ≤ 128) (hl : ¬ ∃ x ∈ ws, long x) (g o c : Nat) (w : World) (hT : Tens w) (ha : WAt w g o ws) :
    Calls Tryd.prog 25 #[.slice (some ⟨g, o, none⟩) n c] w (PrintV w ws) := by
  have eg := enters_of Tryd.func49 (by kernel_rfl) rfl
  have HC := Lib.hid (contains_long ws n hn (by omega) g o c w ha false ⟨fun h => Bool.noConfusion h, fun h => absurd h hl⟩)
  have hz : ((n : Int) == 0) = false := by rw [beq_eq_false_iff_ne]; omega
  have hd : decide ((128 : Int) < (n : Int)) = false := decide_eq_false (by omega)
  have HL := Lib.hid hl
  have HA := Lib.hid ha
  have HN := Lib.hid hn
  have HT := Lib.hid hT
  have hPH := fun (W : World) (hb : Below w.heap.size w W) => print_any (n : Int) ⟨by omega, by omega⟩ W (hT.on hb)
  obtain ⟨M, hM⟩ : ∃ M, M = numText (n : Int) := ⟨_, rfl⟩
  rw [← hM] at hPH
  have HPH := Lib.hid hPH
  have HM := Lib.hid (show M = bs (Lib.itoa (n : Int)) from hM)
  clear hl ha hn hT hPH hM
  go_enter Tryd.func25, Tryd.ntmps25
  go_wp2_with fail
  refine HC.out.mono ?_
  rintro e w1 ⟨rfl, rfl⟩
  go_wp2_with fail
  have hb1 := bA (Below.refl w.heap.size w) (.cells #[.slice none 0 0] 22)
  refine (HPH.out _ hb1).mono ?_
  rintro e w2 ⟨rfl, hb2⟩
  go_wp2_with fail
  have hb12 := bT hb1 hb2
  have hBl : w.heap.size < w2.heap.size := by
    have := hb2.size
    simp at this
    omega
  have hO : Out w.heap.size (.slice none 0 0) [] w2 := ⟨(hb2.block _ (by simp)).trans (heap_alloc_new w _), World.ownsRow_nil _ _ _ _⟩
  have hlen0 := headQ_len (by have := HN.out; omega) HL.out 0
  refine (line2q (hO.below (bA (Below.refl _ _) _)) _ [42] (Lib.itoa (n : Int)) _ _ (heap_alloc_new w2 _) rfl HM.out (by
    have := itoa_len (n : Int) (by omega) (by omega)
    simp
    omega)).mono ?_
  rintro e w3 ⟨rfl, v1, hO1, hW1⟩
  have e1 : [] ++ ([42] ++ (Lib.itoa (n : Int) ++ [13, 10])) = headQ ws 0 := by simp [headQ, HN.out]
  rw [e1] at hO1
  have HO1 := Lib.hid hO1
  have HB3 := Lib.hid (hW1.since (bT hb12 (bA (Below.refl _ _) _)) (Nat.le_refl _) (by simp; omega))
  clear hb1 hb2 hb12 hO hW1 hO1 e1 hlen0
  go_wp2_with fail
  go_loopw [30] (fun s30 wr => ∃ (k : Nat) (v : Value), k ≤ n ∧ s30 = .int .i64 k ∧ Hid (Out w.heap.size v (headQ ws k) wr) ∧ Below w.heap.size w wr) (fun s30 _ => n - (intOf s30).toNat)
  case atStart => exact ⟨0, _, Nat.zero_le _, rfl, HO1, HB3.out⟩
  case round =>
    obtain ⟨k, v, hk, rfl, HO, hbw⟩ := hrel
    have HBW := Lib.hid hbw
    have hll := headQ_len (by have := HN.out; omega) HL.out k
    by_cases hlt : k < n
    · have hd1 : decide ((k : Int) < (n : Int)) = true := decide_eq_true (by omega)
      have hkw : k < ws.length := by have := HN.out; omega
      have k0 := cellBelow hbw (HA.out k hkw)
      have HNX := Lib.hid (headQ_next hkw)
      have hxl : ws[k].length ≤ 4096 := by
        have : ¬ long ws[k] := fun h => HL.out ⟨_, List.getElem_mem hkw, h⟩
        unfold long at this
        omega
      obtain ⟨x, hx⟩ : ∃ x, ws[k] = x := ⟨_, rfl⟩
      rw [hx] at k0 HNX hxl
      obtain ⟨X, hX⟩ : ∃ X, X = bs x := ⟨_, rfl⟩
      have hXs : X.size = x.length := by rw [hX, bs_size]
      rw [← hX] at k0
      rw [← hXs] at HNX hxl
      have HX := Lib.hid hX
      have HXS := Lib.hid hXs
      have hPX := fun (W : World) (hb : Below w.heap.size w W) => print_any (X.size : Int) ⟨by omega, by omega⟩ W (HT.out.on hb)
      obtain ⟨Y, hY⟩ : ∃ Y, Y = numText (X.size : Int) := ⟨_, rfl⟩
      rw [← hY] at hPX
      have HPX := Lib.hid hPX
      have HY := Lib.hid (show Y = bs (Lib.itoa (X.size : Int)) from hY)
      have hil := itoa_len (X.size : Int) (by omega) (by omega)
      clear hX hXs hPX hY hx hbw
      go_wp2_with fail
      refine (HPX.out _ HBW.out).mono ?_
      rintro e w4 ⟨rfl, hb4⟩
      clear k0
      go_wp2_with fail
      have hBr := HO.out.lt
      have hb5 := bA hb4 (.cells #[.string ⟨#[36]⟩, .string Y] 9)
      have hO5 := HO.out.below hb5
      refine (line2q hO5 _ [36] (Lib.itoa (X.size : Int)) _ _ (heap_alloc_new w4 _) rfl HY.out (by simp; omega)).mono ?_
      rintro e w6 ⟨rfl, v6, hO6, hW6⟩
      have hB6 := hW6.since (bT HBW.out hb5) (Nat.le_refl _) hO5.lt
      have HO6 := Lib.hid hO6
      have HB6 := Lib.hid hB6
      clear hb4 hb5 hO5 hO6 hW6 hB6
      go_wp2_with fail
      have hb7 := bA (Below.refl w6.heap.size w6) (.cells #[.string X] 9)
      have hO7 := HO6.out.below hb7
      refine (line1q hO7 _ x _ (heap_alloc_new w6 _) HX.out (by have := HXS.out; simp; omega)).mono ?_
      rintro e w8 ⟨rfl, v8, hO8, hW8⟩
      have HB8 := Lib.hid (hW8.since (bT HB6.out hb7) (Nat.le_refl _) hO7.lt)
      rw [← HNX.out] at hO8
      have HO8 := Lib.hid hO8
      clear hb7 hO7 hO8 hW8
      go_wp2_with fail
      go_roundw
      case rel => exact ⟨k + 1, v8, by omega, by go_num, HO8, HB8.out⟩
      case measure => simp [intOf]; omega
    · have hd1 : decide ((k : Int) < (n : Int)) = false := decide_eq_false (by omega)
      have hE := headQ_end (by have := HN.out; omega) (by have := HN.out; omega) HL.out (show ¬ k < ws.length by have := HN.out; omega)
      have cB : wr.cell? ⟨w.heap.size, 0, none⟩ = some v := by rw [Lib.cell_of_heap HO.out.var]; rfl
      have hrow := HO.out.row
      rw [hE] at hrow
      have HROW := Lib.hid (own_base hrow (Nat.le_succ _))
      clear hE hrow
      go_wp2
      go_ret
      exact ⟨⟨_, rfl, HROW.out⟩, HBW.out⟩

/-- request.Print, of any words. -/
theorem printq_any (ws : List Wd) (p : Option Addr) (c : Nat) (w : World) (hT : Tens w) (ha : ws = [] ∨ ∃ g o, p = some ⟨g, o, none⟩ ∧ WAt w g o ws) :
    Calls Tryd.prog 25 #[.slice p ws.length c] w (PrintV w ws) := by
  by_cases h : ws.length = 0 ∨ 128 < ws.length
  · exact print_none ws p c h w
  · rcases ha with rfl | ⟨g, o, rfl, ha⟩
    · exact absurd (.inl rfl) h
    · by_cases hl : ∃ x ∈ ws, long x
      · exact print_long ws _ rfl (by omega) (by omega) hl g o c w ha
      · exact print_some ws _ rfl (by omega) (by omega) hl g o c w hT ha
end Go.Proofs.YtcikelcecfapcaaDoor
