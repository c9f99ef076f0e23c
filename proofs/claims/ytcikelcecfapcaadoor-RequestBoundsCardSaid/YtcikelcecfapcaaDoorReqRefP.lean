/-
  What Print encodes is told as itself: plain mathematics. The reference's Print.
-/
import Derived.Test.YtcikelcecfapcaaDoorReqTold
import Derived.Test.YtcikelcecfapcaaDoorReqSame
namespace Go.Proofs.YtcikelcecfapcaaDoor
open Go.RowKit Rp Rq

/-- A word's encoding, a command's. -/
def encW (w : Wd) : List UInt8 := 36 :: (Lib.itoa (w.length : Int) ++ 13 :: 10 :: (w ++ [13, 10]))
def encQ (ws : List Wd) : List UInt8 := 42 :: (Lib.itoa (ws.length : Int) ++ 13 :: 10 :: (ws.map encW).flatten)

theorem lfAt_calm (u r : List UInt8) (h : ∀ x ∈ u, x ≠ 10) : lfAt (u ++ 10 :: r) = u.length := by
  unfold lfAt
  rw [List.findIdx_append, if_neg]
  · simp [List.findIdx_cons]
  · intro h2
    have := List.findIdx_getElem (w := h2)
    exact h _ (List.getElem_mem h2) (beq_iff_eq.1 this)
theorem lineQ_calm (u r : List UInt8) (h : ∀ x ∈ u, x ≠ 10) (hl : u.length ≤ 1000) : lineQ (u ++ 13 :: 10 :: r) = .ok (u, r) := by
  have e : u ++ 13 :: 10 :: r = (u ++ [13]) ++ 10 :: r := by simp
  have h2 : lfAt (u ++ 13 :: 10 :: r) = u.length + 1 := by
    rw [e, lfAt_calm _ _ (fun x hx => by
      rcases List.mem_append.1 hx with hx | hx
      · exact h x hx
      · obtain rfl : x = 13 := by simpa using hx
        decide)]
    simp
  unfold lineQ
  rw [h2, if_pos ⟨by simp, by omega⟩, if_pos ⟨by omega, by simp⟩]
  have e3 : u ++ 13 :: 10 :: r = (u ++ [13, 10]) ++ r := by simp
  have h4 : (u ++ 13 :: 10 :: r).drop (u.length + 1 + 1) = r := by
    rw [e3]
    exact List.drop_left' (by simp)
  rw [h4]
  simp
theorem numQ_itoa {n : Nat} {a b : Int} (hf : parseL (Lib.itoa (n : Int)) = some (n : Int)) (h1 : a ≤ n) (h2 : (n : Int) ≤ b) : numQ (Lib.itoa (n : Int)) a b = .ok (n : Int) := by
  unfold numQ
  rw [hf]
  simp only
  rw [if_neg (by omega), if_neg (by omega)]
theorem itoa_line (x : UInt8) (hx : x ≠ 10) (n : Nat) (hn : n ≤ 1000000) : (∀ y ∈ x :: Lib.itoa (n : Int), y ≠ 10) ∧ (x :: Lib.itoa (n : Int)).length ≤ 1000 := by
  refine ⟨fun y hy => ?_, ?_⟩
  · rcases List.mem_cons.1 hy with rfl | hy
    · exact hx
    · exact (itoa_calm _ y hy).2
  · have := itoa_len (n : Int) (by omega) (by omega)
    rw [List.length_cons]
    omega
theorem wordQ_enc (w r : List UInt8) (hw : w.length ≤ 4096) : wordQ (encW w ++ r) = .ok (w, r) := by
  have hl := itoa_line 36 (by decide) w.length (by omega)
  have e : encW w ++ r = (36 :: Lib.itoa (w.length : Int)) ++ 13 :: 10 :: (w ++ [13, 10] ++ r) := by simp [encW]
  rw [e]
  unfold wordQ
  rw [lineQ_calm _ _ hl.1 hl.2]
  simp only [if_pos]
  rw [numQ_itoa (parse_itoa _ ⟨by omega, by omega⟩) (by omega) (by omega)]
  simp only [Int.toNat_natCast]
  unfold bodyQ
  rw [if_neg (by simp)]
  have h1 : (w ++ [13, 10] ++ r).drop w.length = [13, 10] ++ r := by rw [List.append_assoc]; exact List.drop_left' rfl
  have h2 : (w ++ [13, 10] ++ r).drop (w.length + 2) = r := List.drop_left' (by simp)
  have h3 : (w ++ [13, 10] ++ r).take w.length = w := by rw [List.append_assoc]; exact List.take_left' rfl
  rw [h1, h2, h3, if_pos (by simp [crlf])]
theorem takeN_enc : ∀ (ws : List Wd) (r : List UInt8), (∀ w ∈ ws, w.length ≤ 4096) → takeN ws.length ((ws.map encW).flatten ++ r) = .ok (ws, r)
  | [], r, _ => rfl
  | w :: ws, r, h => by
    rw [List.map_cons, List.flatten_cons, List.append_assoc, List.length_cons, takeN, wordQ_enc _ _ (h w List.mem_cons_self)]
    simp only
    rw [takeN_enc ws r (fun x hx => h x (List.mem_cons_of_mem _ hx))]
/-- What is encoded is told as itself, whatever follows. -/
theorem go_enc (ws : List Wd) (hn : ws ≠ []) (hl : ws.length ≤ 128) (hw : ∀ w ∈ ws, w.length ≤ 4096) (r : List UInt8) (cs : List (List Wd)) (t : Stop) (hg : Rq.Go (St.new r) cs t) : Rq.Go (St.new (encQ ws ++ r)) (ws :: cs) t := by
  have hpos := List.length_pos_iff.2 hn
  have hli := itoa_line 42 (by decide) ws.length (by omega)
  have e : encQ ws ++ r = (42 :: Lib.itoa (ws.length : Int)) ++ 13 :: 10 :: ((ws.map encW).flatten ++ r) := by simp [encQ]
  have hlq := lineQ_calm (42 :: Lib.itoa (ws.length : Int)) ((ws.map encW).flatten ++ r) hli.1 hli.2
  have hst : Rq.step (St.new (encQ ws ++ r)) = .ok (⟨ws.length, [], (encQ ws ++ r).length - ((ws.map encW).flatten ++ r).length, (ws.map encW).flatten ++ r⟩, []) := by
    rw [step_new, e, lineStep_star hlq, numQ_itoa (parse_itoa _ ⟨by omega, by omega⟩) (by omega) (by omega)]
    rfl
  have hwg := words_go ws.length (by omega) (ws.length - 1) [] ((encQ ws ++ r).length - ((ws.map encW).flatten ++ r).length) ((ws.map encW).flatten ++ r) (by simp; omega)
  rw [show ws.length - 1 + 1 = ws.length by omega, takeN_enc ws r hw] at hwg
  have := Rq.Go.next hst (hwg cs t hg)
  simpa using this
end Go.Proofs.YtcikelcecfapcaaDoor

namespace Go.Proofs.YtcikelcecfapcaaDoor
open Go.RowKit Rp Rq

/-- What Print encodes: nothing where there is no such command. -/
def printQ (ws : List Wd) : List UInt8 := if ws = [] ∨ 128 < ws.length ∨ ∃ w ∈ ws, 4096 < w.length then [] else encQ ws

theorem refpq_none (p : Option Addr) (c n : Nat) (h : n = 0 ∨ 128 < n) (w : World) :
    Calls Tryd.prog 26 #[.slice p n c] w fun e w' => e = .returned (.string ⟨#[]⟩) ∧ w = w' := by
  rcases h with rfl | h
  · go_enter Tryd.func26, Tryd.ntmps26
    go_wp2
    go_ret
    exact ⟨rfl, rfl⟩
  · have h0 : ((n : Int) == 0) = false := by rw [beq_eq_false_iff_ne]; omega
    have h1 : decide ((128 : Int) < (n : Int)) = true := decide_eq_true (by omega)
    go_enter Tryd.func26, Tryd.ntmps26
    go_wp2
    go_ret
    exact ⟨rfl, rfl⟩

theorem encW_len (w : Wd) (h : w.length ≤ 4096) : (encW w).length ≤ 5000 := by
  have := itoa_len (w.length : Int) (by omega) (by omega)
  simp [encW]
  omega

/-- What stands at the head of a round. -/
structure PrI (ws : List Wd) (k : Nat) (S : ByteArray) : Prop where
  eq : S = bs (42 :: (Lib.itoa (ws.length : Int) ++ 13 :: 10 :: ((ws.take k).map encW).flatten))
  small : ∀ x ∈ ws.take k, x.length ≤ 4096
theorem flat_len : ∀ (l : List Wd), (∀ x ∈ l, x.length ≤ 4096) → ((l.map encW).flatten).length ≤ l.length * 5000
  | [], _ => by simp
  | x :: l, h => by
    have h1 := encW_len x (h x List.mem_cons_self)
    have h2 := flat_len l (fun y hy => h y (List.mem_cons_of_mem _ hy))
    rw [List.map_cons, List.flatten_cons, List.length_append, List.length_cons]
    omega
theorem PrI.size {ws : List Wd} {k : Nat} {S : ByteArray} (H : PrI ws k S) (hl : ws.length ≤ 128) : S.size ≤ 1000000 := by
  have h1 := flat_len _ H.small
  have h2 := itoa_len (ws.length : Int) (by omega) (by omega)
  have h3 : (ws.take k).length ≤ 128 := by rw [List.length_take]; omega
  rw [H.eq, bs_size, List.length_cons, List.length_append, List.length_cons, List.length_cons]
  omega
theorem PrI.next {ws : List Wd} {k : Nat} {S : ByteArray} (H : PrI ws k S) (hk : k < ws.length) (hx : ws[k].length ≤ 4096) : PrI ws (k + 1) (S ++ ⟨#[36]⟩ ++ numText (ws[k].length : Int) ++ ⟨#[13, 10]⟩ ++ bs ws[k] ++ ⟨#[13, 10]⟩) := by
  refine ⟨?_, fun x hx' => ?_⟩
  · rw [H.eq, show (⟨#[36]⟩ : ByteArray) = bs [36] from rfl, show (⟨#[13, 10]⟩ : ByteArray) = bs [13, 10] from rfl, show numText (ws[k].length : Int) = bs (Lib.itoa (ws[k].length : Int)) from rfl, bsq_app, bsq_app, bsq_app, bsq_app, bsq_app, List.take_succ_eq_append_getElem hk, List.map_append, List.flatten_append, List.map_cons, List.map_nil, encW]
    simp [-List.map_take]
  · rw [List.take_succ_eq_append_getElem hk] at hx'
    rcases List.mem_append.1 hx' with h | h
    · exact H.small x h
    · obtain rfl : x = ws[k] := by simpa using h
      exact hx
theorem PrI.stop {ws : List Wd} {k : Nat} {S : ByteArray} (H : PrI ws k S) (hk : ¬ k < ws.length) (h0 : 0 < ws.length) (h1 : ws.length ≤ 128) : S = bs (printQ ws) := by
  have ht : ws.take k = ws := List.take_of_length_le (by omega)
  have hs := H.small
  rw [ht] at hs
  have e : printQ ws = encQ ws := by
    unfold printQ
    rw [if_neg]
    rintro (h | h | ⟨x, hx, h⟩)
    · rw [h] at h0; simp at h0
    · omega
    · have := hs x hx; omega
  rw [H.eq, e, ht]
  rfl
theorem printQ_long {ws : List Wd} {k : Nat} (hk : k < ws.length) (h : 4096 < ws[k].length) : printQ ws = [] := by
  unfold printQ
  rw [if_pos (.inr (.inr ⟨ws[k], List.getElem_mem hk, h⟩))]

set_option maxRecDepth 20000 in
set_option maxHeartbeats 4000000 in
theorem refpq_some (ws : List Wd) (n : Nat) (hn : ws.length = n) (h0 : 0 < n) (h1 : n ≤ 128) (g o c : Nat) (w : World) (ha : WAt w g o ws) :
    Calls Tryd.prog 26 #[.slice (some ⟨g, o, none⟩) n c] w fun e w' => e = .returned (.string (bs (printQ ws))) ∧ Below w.heap.size w w' := by
  have HA := Lib.hid ha
  have HN := Lib.hid hn
  clear ha hn
  have hz : ((n : Int) == 0) = false := by rw [beq_eq_false_iff_ne]; omega
  have hd : decide ((128 : Int) < (n : Int)) = false := decide_eq_false (by omega)
  have HP := Lib.hid (refprint_any (n : Int) ⟨by omega, by omega⟩)
  have hns := numText_size (n : Int) ⟨by omega, by omega⟩
  obtain ⟨M, hM⟩ : ∃ M, M = numText (n : Int) := ⟨_, rfl⟩
  rw [← hM] at hns HP
  have HM := Lib.hid hM
  clear hM
  go_enter Tryd.func26, Tryd.ntmps26
  go_wp2_with fail
  refine (HP.out w).mono ?_
  rintro e w1 ⟨rfl, hb1⟩
  have HB1 := Lib.hid hb1
  have HST := Lib.hid (show PrI ws 0 ((⟨#[42]⟩ : ByteArray) ++ M ++ ⟨#[13, 10]⟩) from ⟨by
    rw [HM.out, show (⟨#[42]⟩ : ByteArray) = bs [42] from rfl, show (⟨#[13, 10]⟩ : ByteArray) = bs [13, 10] from rfl, show numText (n : Int) = bs (Lib.itoa (n : Int)) from rfl, bsq_app, bsq_app, HN.out]
    simp, fun x hx => by simp at hx⟩)
  clear hb1
  go_wp2_with fail
  go_loopw [3, 4] (fun s3 s4 wr => ∃ (k : Nat) (S : ByteArray), k ≤ n ∧ s4 = .int .i64 k ∧ s3 = .string S ∧ Hid (PrI ws k S) ∧ Below w.heap.size w wr) (fun _ s4 _ => n - (intOf s4).toNat)
  case atStart => exact ⟨0, _, Nat.zero_le _, rfl, rfl, HST, HB1.out⟩
  case round =>
    obtain ⟨k, S, hk, rfl, rfl, HI, hbw⟩ := hrel
    have hSs := HI.out.size (by have := HN.out; omega)
    by_cases hlt : k < n
    · have hd1 : decide ((k : Int) < (n : Int)) = true := decide_eq_true (by omega)
      have hkw : k < ws.length := by have := HN.out; omega
      have k0 := cellBelow hbw (HA.out k hkw)
      have HNX := Lib.hid (HI.out.next hkw)
      have HLG := Lib.hid (fun h => @printQ_long ws k hkw h)
      have HBW := Lib.hid hbw
      obtain ⟨x, hx⟩ : ∃ x, ws[k] = x := ⟨_, rfl⟩
      rw [hx] at k0 HNX HLG
      obtain ⟨X, hX⟩ : ∃ X, X = bs x := ⟨_, rfl⟩
      have hXs : X.size = x.length := by rw [hX, bs_size]
      rw [← hX] at k0 HNX
      have HXS := Lib.hid hXs
      clear hX hx hbw
      by_cases hbig : 4096 < X.size
      · have HE := Lib.hid (HLG.out (by have := HXS.out; omega))
        have hd2 : decide ((4096 : Int) < (X.size : Int)) = true := decide_eq_true (by omega)
        clear hXs
        go_wp2
        go_ret
        exact ⟨by rw [HE.out]; rfl, HBW.out⟩
      · have hd2 : decide ((4096 : Int) < (X.size : Int)) = false := decide_eq_false (by omega)
        have HN2 := Lib.hid (HNX.out (by omega))
        rw [← hXs] at HN2
        have hfx : Fits (X.size : Int) := ⟨by omega, by omega⟩
        have hYs := numText_size (X.size : Int) hfx
        have HPX := Lib.hid (refprint_any (X.size : Int) hfx)
        obtain ⟨Y, hY⟩ : ∃ Y, Y = numText (X.size : Int) := ⟨_, rfl⟩
        rw [← hY] at hYs HPX HN2
        have KK : Hid (∀ w', Below wr.heap.size wr w' → Below wr.heap.size wr w' ∧ w'.cell? ⟨g, o + k, none⟩ = some (.string X)) := Lib.hid fun w' h => ⟨h, cellBelow h k0⟩
        have i0 : (0 : Int) ≤ (k : Int) := by omega
        have i1 : (k : Int) < (n : Int) := by omega
        have s1 : ¬ 9223372036854775807 < S.size + 1 := by omega
        have s2 : ¬ 9223372036854775807 < S.size + 1 + Y.size := by omega
        have s3 : ¬ 9223372036854775807 < S.size + 1 + Y.size + 2 := by omega
        have s4 : ¬ 9223372036854775807 < S.size + 1 + Y.size + 2 + X.size := by omega
        have s5 : ¬ 9223372036854775807 < S.size + 1 + Y.size + 2 + X.size + 2 := by omega
        clear hXs hfx hY
        go_wp2_with fail
        go_region_held3 (fun w' => Below wr.heap.size wr w' ∧ w'.cell? ⟨g, o + k, none⟩ = some (.string X))
          ((first | exact KK.out _ (bD (Below.refl _ _)) | exact KK.out _ (bT (bD (Below.refl _ _)) hb1)))
          ((go_at_call 35; refine (HPX.out _).mono ?_; rintro e9 w1 ⟨rfl, hb1⟩))
        have hb2 := bT (bD (Below.refl wr.heap.size wr)) hb1
        clear KK HPX k0 hb1
        rename_i hHeld
        clear hHeld
        go_wp2_with fail
        go_roundw
        case rel => exact ⟨k + 1, _, by omega, by go_num, rfl, HN2, bT HBW.out hb2⟩
        case measure => simp [intOf]; omega
    · have HE := Lib.hid (HI.out.stop (by have := HN.out; omega) (by have := HN.out; omega) (by have := HN.out; omega))
      have hd1 : decide ((k : Int) < (n : Int)) = false := decide_eq_false (by omega)
      go_wp2
      go_ret
      exact ⟨by rw [← HE.out]; rfl, hbw⟩

/-- The reference's Print, of any words. -/
theorem refpq_any (ws : List Wd) (p : Option Addr) (c : Nat) (w : World) (ha : ws = [] ∨ ∃ g o, p = some ⟨g, o, none⟩ ∧ WAt w g o ws) :
    Calls Tryd.prog 26 #[.slice p ws.length c] w fun e w' => e = .returned (.string (bs (printQ ws))) ∧ Below w.heap.size w w' := by
  by_cases h : ws.length = 0 ∨ 128 < ws.length
  · refine (refpq_none p c _ h w).mono ?_
    rintro e w' ⟨rfl, rfl⟩
    have e : printQ ws = [] := by
      unfold printQ
      rw [if_pos (h.imp List.eq_nil_of_length_eq_zero .inl)]
    rw [e]
    exact ⟨rfl, Below.refl _ _⟩
  · rcases ha with rfl | ⟨g, o, rfl, ha⟩
    · exact absurd (.inl rfl) h
    · exact refpq_some ws _ rfl (by omega) (by omega) g o c w ha
end Go.Proofs.YtcikelcecfapcaaDoor
