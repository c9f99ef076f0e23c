/-
  What resp.fits answers of replies that are no arrays. What resp.fits and resp.Right answer: is a reply right? What resp.fits and resp.Right answer, whole.
-/
import Derived.Test.YtcikelcecfapcaaDoorRespAny
import Derived.Test.YtcikelcecfapcaaDoorRespSameA
import Derived.Test.YtcikelcecfapcaaDoorRespRight5
import Derived.Test.YtcikelcecfapcaaDoorRespSame
namespace Go.Proofs.YtcikelcecfapcaaDoor
open Go.RowKit Rp

theorem len_zero {l : List Rep} (h : l ≠ []) : ((l.length : Int) == 0) = false := beq_eq_false_iff_ne.2 (by have := List.length_pos_iff.2 h; omega)

set_option maxRecDepth 20000 in
set_option maxHeartbeats 400000 in
theorem rf_off (k : Int) (n : Int) (L : Nat) (c : Nat) (p : Option Addr) (S : ByteArray) (d : Int) (w : World) (h0 : (k == 0) = false) (h1 : (k == 1) = false) (h2 : (k == 2) = false) (h3 : (k == 3) = false) (h4 : (k == 4) = false) (h5 : (k == 5) = false) :
    Calls Tryd.prog 36 #[.agg #[.int .i64 k, .string S, .int .i64 n, .slice p L c], .int .i64 d] w fun e w' => e = .returned (.bool false) ∧ Below w.heap.size w w' := by
  go_enter Tryd.func36, Tryd.ntmps36
  go_wp2
  all_goals
    go_ret
    exact ⟨rfl, bA (bA (Below.refl _ _) _) _⟩

set_option maxRecDepth 20000 in
set_option maxHeartbeats 400000 in
theorem rf_0n (n : Int) (L : Nat) (c : Nat) (p : Option Addr) (S : ByteArray) (d : Int) (w : World) (h2 : (n == 0) = false) :
    Calls Tryd.prog 36 #[.agg #[.int .i64 0, .string S, .int .i64 n, .slice p L c], .int .i64 d] w fun e w' => e = .returned (.bool false) ∧ Below w.heap.size w w' := by
  go_enter Tryd.func36, Tryd.ntmps36
  go_wp2
  all_goals
    go_ret
    exact ⟨rfl, bA (bA (Below.refl _ _) _) _⟩

set_option maxRecDepth 20000 in
set_option maxHeartbeats 400000 in
theorem rf_0l (L : Nat) (c : Nat) (p : Option Addr) (S : ByteArray) (d : Int) (w : World) (h1 : ((L : Int) == 0) = false) :
    Calls Tryd.prog 36 #[.agg #[.int .i64 0, .string S, .int .i64 0, .slice p L c], .int .i64 d] w fun e w' => e = .returned (.bool false) ∧ Below w.heap.size w w' := by
  go_enter Tryd.func36, Tryd.ntmps36
  go_wp2
  all_goals
    go_ret
    exact ⟨rfl, bA (bA (Below.refl _ _) _) _⟩

set_option maxRecDepth 20000 in
set_option maxHeartbeats 400000 in
theorem rf_1n (n : Int) (L : Nat) (c : Nat) (p : Option Addr) (S : ByteArray) (d : Int) (w : World) (h2 : (n == 0) = false) :
    Calls Tryd.prog 36 #[.agg #[.int .i64 1, .string S, .int .i64 n, .slice p L c], .int .i64 d] w fun e w' => e = .returned (.bool false) ∧ Below w.heap.size w w' := by
  go_enter Tryd.func36, Tryd.ntmps36
  go_wp2
  all_goals
    go_ret
    exact ⟨rfl, bA (bA (Below.refl _ _) _) _⟩

set_option maxRecDepth 20000 in
set_option maxHeartbeats 400000 in
theorem rf_1l (L : Nat) (c : Nat) (p : Option Addr) (S : ByteArray) (d : Int) (w : World) (h1 : ((L : Int) == 0) = false) :
    Calls Tryd.prog 36 #[.agg #[.int .i64 1, .string S, .int .i64 0, .slice p L c], .int .i64 d] w fun e w' => e = .returned (.bool false) ∧ Below w.heap.size w w' := by
  go_enter Tryd.func36, Tryd.ntmps36
  go_wp2
  all_goals
    go_ret
    exact ⟨rfl, bA (bA (Below.refl _ _) _) _⟩

set_option maxRecDepth 20000 in
set_option maxHeartbeats 400000 in
theorem rf_3n (n : Int) (L : Nat) (c : Nat) (p : Option Addr) (S : ByteArray) (d : Int) (w : World) (h2 : (n == 0) = false) :
    Calls Tryd.prog 36 #[.agg #[.int .i64 3, .string S, .int .i64 n, .slice p L c], .int .i64 d] w fun e w' => e = .returned (.bool false) ∧ Below w.heap.size w w' := by
  go_enter Tryd.func36, Tryd.ntmps36
  go_wp2
  all_goals
    go_ret
    exact ⟨rfl, bA (bA (Below.refl _ _) _) _⟩

set_option maxRecDepth 20000 in
set_option maxHeartbeats 400000 in
theorem rf_3l (L : Nat) (c : Nat) (p : Option Addr) (S : ByteArray) (d : Int) (w : World) (h1 : ((L : Int) == 0) = false) :
    Calls Tryd.prog 36 #[.agg #[.int .i64 3, .string S, .int .i64 0, .slice p L c], .int .i64 d] w fun e w' => e = .returned (.bool false) ∧ Below w.heap.size w w' := by
  go_enter Tryd.func36, Tryd.ntmps36
  go_wp2
  all_goals
    go_ret
    exact ⟨rfl, bA (bA (Below.refl _ _) _) _⟩

set_option maxRecDepth 20000 in
set_option maxHeartbeats 400000 in
theorem rf_0 (c : Nat) (p : Option Addr) (S : ByteArray) (d : Int) (w : World) (hs : S.size < 4294967281) (z : Bool) (hz : calm S.data.toList = z) :
    Calls Tryd.prog 36 #[.agg #[.int .i64 0, .string S, .int .i64 0, .slice p 0 c], .int .i64 d] w fun e w' => e = .returned (.bool z) ∧ Below w.heap.size w w' := by
  have HC := Lib.hid (fun W => contains_any S hs W)
  rw [hz] at HC
  clear hz
  go_enter Tryd.func36, Tryd.ntmps36
  go_wp2_with fail
  refine (HC.out _).mono ?_
  rintro e w1 ⟨rfl, hb⟩
  cases z
  all_goals
    go_wp2
    go_ret
    exact ⟨rfl, bT (bA (bA (Below.refl _ _) _) _) hb⟩

set_option maxRecDepth 20000 in
set_option maxHeartbeats 400000 in
theorem rf_1 (c : Nat) (p : Option Addr) (S : ByteArray) (d : Int) (w : World) (hs : S.size < 4294967281) (z : Bool) (hz : calm S.data.toList = z) :
    Calls Tryd.prog 36 #[.agg #[.int .i64 1, .string S, .int .i64 0, .slice p 0 c], .int .i64 d] w fun e w' => e = .returned (.bool z) ∧ Below w.heap.size w w' := by
  have HC := Lib.hid (fun W => contains_any S hs W)
  rw [hz] at HC
  clear hz
  go_enter Tryd.func36, Tryd.ntmps36
  go_wp2_with fail
  refine (HC.out _).mono ?_
  rintro e w1 ⟨rfl, hb⟩
  cases z
  all_goals
    go_wp2
    go_ret
    exact ⟨rfl, bT (bA (bA (Below.refl _ _) _) _) hb⟩

set_option maxRecDepth 20000 in
set_option maxHeartbeats 400000 in
theorem rf_2s (n : Int) (L : Nat) (c : Nat) (p : Option Addr) (S : ByteArray) (d : Int) (w : World) (h3 : S.toList.isEmpty = false) :
    Calls Tryd.prog 36 #[.agg #[.int .i64 2, .string S, .int .i64 n, .slice p L c], .int .i64 d] w fun e w' => e = .returned (.bool false) ∧ Below w.heap.size w w' := by
  go_enter Tryd.func36, Tryd.ntmps36
  go_wp2
  all_goals
    go_ret
    exact ⟨rfl, bA (bA (Below.refl _ _) _) _⟩

set_option maxRecDepth 20000 in
set_option maxHeartbeats 400000 in
theorem rf_2l (n : Int) (L : Nat) (c : Nat) (p : Option Addr) (d : Int) (w : World) (h1 : ((L : Int) == 0) = false) :
    Calls Tryd.prog 36 #[.agg #[.int .i64 2, .string (bs []), .int .i64 n, .slice p L c], .int .i64 d] w fun e w' => e = .returned (.bool false) ∧ Below w.heap.size w w' := by
  have hn := bytes_nil
  go_enter Tryd.func36, Tryd.ntmps36
  go_wp2
  all_goals
    go_ret
    exact ⟨rfl, bA (bA (Below.refl _ _) _) _⟩

set_option maxRecDepth 20000 in
set_option maxHeartbeats 400000 in
theorem rf_2 (n : Int) (c : Nat) (p : Option Addr) (d : Int) (w : World) :
    Calls Tryd.prog 36 #[.agg #[.int .i64 2, .string (bs []), .int .i64 n, .slice p 0 c], .int .i64 d] w fun e w' => e = .returned (.bool true) ∧ Below w.heap.size w w' := by
  have hn := bytes_nil
  go_enter Tryd.func36, Tryd.ntmps36
  go_wp2
  all_goals
    go_ret
    exact ⟨rfl, bA (bA (Below.refl _ _) _) _⟩

set_option maxRecDepth 20000 in
set_option maxHeartbeats 400000 in
theorem rf_3 (c : Nat) (p : Option Addr) (S : ByteArray) (d : Int) (w : World) :
    Calls Tryd.prog 36 #[.agg #[.int .i64 3, .string S, .int .i64 0, .slice p 0 c], .int .i64 d] w fun e w' => e = .returned (.bool true) ∧ Below w.heap.size w w' := by
  go_enter Tryd.func36, Tryd.ntmps36
  go_wp2
  all_goals
    go_ret
    exact ⟨rfl, bA (bA (Below.refl _ _) _) _⟩

set_option maxRecDepth 20000 in
set_option maxHeartbeats 400000 in
theorem rf_4s (n : Int) (L : Nat) (c : Nat) (p : Option Addr) (S : ByteArray) (d : Int) (w : World) (h3 : S.toList.isEmpty = false) :
    Calls Tryd.prog 36 #[.agg #[.int .i64 4, .string S, .int .i64 n, .slice p L c], .int .i64 d] w fun e w' => e = .returned (.bool false) ∧ Below w.heap.size w w' := by
  go_enter Tryd.func36, Tryd.ntmps36
  go_wp2
  all_goals
    go_ret
    exact ⟨rfl, bA (bA (Below.refl _ _) _) _⟩

set_option maxRecDepth 20000 in
set_option maxHeartbeats 400000 in
theorem rf_4n (n : Int) (L : Nat) (c : Nat) (p : Option Addr) (d : Int) (w : World) (h2 : (n == 0) = false) :
    Calls Tryd.prog 36 #[.agg #[.int .i64 4, .string (bs []), .int .i64 n, .slice p L c], .int .i64 d] w fun e w' => e = .returned (.bool false) ∧ Below w.heap.size w w' := by
  have hn := bytes_nil
  go_enter Tryd.func36, Tryd.ntmps36
  go_wp2
  all_goals
    go_ret
    exact ⟨rfl, bA (bA (Below.refl _ _) _) _⟩

set_option maxRecDepth 20000 in
set_option maxHeartbeats 400000 in
theorem rf_4l (L : Nat) (c : Nat) (p : Option Addr) (d : Int) (w : World) (h1 : ((L : Int) == 0) = false) :
    Calls Tryd.prog 36 #[.agg #[.int .i64 4, .string (bs []), .int .i64 0, .slice p L c], .int .i64 d] w fun e w' => e = .returned (.bool false) ∧ Below w.heap.size w w' := by
  have hn := bytes_nil
  go_enter Tryd.func36, Tryd.ntmps36
  go_wp2
  all_goals
    go_ret
    exact ⟨rfl, bA (bA (Below.refl _ _) _) _⟩

set_option maxRecDepth 20000 in
set_option maxHeartbeats 400000 in
theorem rf_4 (c : Nat) (p : Option Addr) (d : Int) (w : World) :
    Calls Tryd.prog 36 #[.agg #[.int .i64 4, .string (bs []), .int .i64 0, .slice p 0 c], .int .i64 d] w fun e w' => e = .returned (.bool true) ∧ Below w.heap.size w w' := by
  have hn := bytes_nil
  go_enter Tryd.func36, Tryd.ntmps36
  go_wp2
  all_goals
    go_ret
    exact ⟨rfl, bA (bA (Below.refl _ _) _) _⟩

set_option maxRecDepth 20000 in
set_option maxHeartbeats 400000 in
theorem rf_5s (n : Int) (L : Nat) (c : Nat) (p : Option Addr) (S : ByteArray) (d : Int) (w : World) (h3 : S.toList.isEmpty = false) :
    Calls Tryd.prog 36 #[.agg #[.int .i64 5, .string S, .int .i64 n, .slice p L c], .int .i64 d] w fun e w' => e = .returned (.bool false) ∧ Below w.heap.size w w' := by
  go_enter Tryd.func36, Tryd.ntmps36
  go_wp2
  all_goals
    go_ret
    exact ⟨rfl, bA (bA (Below.refl _ _) _) _⟩

set_option maxRecDepth 20000 in
set_option maxHeartbeats 400000 in
theorem rf_5n (n : Int) (L : Nat) (c : Nat) (p : Option Addr) (d : Int) (w : World) (h2 : (n == 0) = false) :
    Calls Tryd.prog 36 #[.agg #[.int .i64 5, .string (bs []), .int .i64 n, .slice p L c], .int .i64 d] w fun e w' => e = .returned (.bool false) ∧ Below w.heap.size w w' := by
  have hn := bytes_nil
  go_enter Tryd.func36, Tryd.ntmps36
  go_wp2
  all_goals
    go_ret
    exact ⟨rfl, bA (bA (Below.refl _ _) _) _⟩

set_option maxRecDepth 20000 in
set_option maxHeartbeats 400000 in
theorem rf_5z (L c : Nat) (p : Option Addr) (w : World) :
    Calls Tryd.prog 36 #[.agg #[.int .i64 5, .string (bs []), .int .i64 0, .slice p L c], .int .i64 0] w fun e w' => e = .returned (.bool false) ∧ Below w.heap.size w w' := by
  have hn := bytes_nil
  go_enter Tryd.func36, Tryd.ntmps36
  go_wp2
  all_goals
    go_ret
    exact ⟨rfl, bA (bA (Below.refl _ _) _) _⟩
end Go.Proofs.YtcikelcecfapcaaDoor

namespace Go.Proofs.YtcikelcecfapcaaDoor
open Go.RowKit Rp

mutual
/-- Its strings have 2000 bytes at most, and it has 300 elements at most; so have its elements. -/
def Short : Rep → Prop
  | .mk _ s _ l => s.length ≤ 2000 ∧ l.length ≤ 300 ∧ ShortL l
def ShortL : List Rep → Prop
  | [] => True
  | r :: rs => Short r ∧ ShortL rs
end
theorem short_mem : ∀ {l : List Rep}, ShortL l → ∀ x ∈ l, Short x
  | [], _, x, hx => by simp at hx
  | r :: rs, h, x, hx => by
    rw [ShortL] at h
    rcases List.mem_cons.1 hx with rfl | hx
    · exact h.1
    · exact short_mem h.2 x hx
theorem short_all : ∀ {l : List Rep}, (∀ x ∈ l, Short x) → ShortL l
  | [], _ => by rw [ShortL]; trivial
  | r :: rs, h => by
    rw [ShortL]
    exact ⟨h r (by simp), short_all fun x hx => h x (by simp [hx])⟩

/-- fits' contract at a depth. -/
def FitsAt (d : Nat) : Prop := ∀ (r : Rep) (p : Option Addr) (c : Nat) (w : World), RepIn w r p c → Short r →
    Calls Tryd.prog 36 #[.agg (repCs r p c), .int .i64 d] w fun e w' => e = .returned (.bool (right d r)) ∧ Below w.heap.size w w'

set_option maxRecDepth 20000 in
set_option maxHeartbeats 400000 in
theorem bad_any (d : Nat) (hd : d ≤ 8) (ih : FitsAt d) (r : Rep) (p : Option Addr) (c : Nat) (B : Nat) (w : World) (h : RepIn w r p c) (hs : Short r) (hB : w.cell? ⟨B, 0, none⟩ = some (.int .i64 ((d + 1 : Nat) : Int))) :
    Calls Tryd.prog 59 #[.agg (repCs r p c), .pointer (some ⟨B, 0, none⟩)] w fun e w' => e = .returned (.bool (!right d r)) ∧ Below w.heap.size w w' := by
  have hc : ∀ W, Below w.heap.size w W → _ := fun W hb => ih r p c W (RepIn.below hb _ h) hs
  unfold repCs at hc ⊢
  obtain ⟨D, hD⟩ : ∃ D : Int, D = ((d + 1 : Nat) : Int) := ⟨_, rfl⟩
  rw [← hD] at hB
  have hdm : D - 1 = (d : Int) := by omega
  have hD1 : 1 ≤ D := by omega
  have hD9 : D ≤ 9 := by omega
  have hd8 : d ≤ 8 := by omega
  have hBl := World.block_lt_of_cell? w _ hB
  have HC := Lib.hid hc
  generalize right d r = z at *
  clear hc hD ih h hs
  go_enter Tryd.func59, Tryd.ntmps59
  go_wp2_with fail
  refine (HC.out _ (bA (Below.refl _ _) _)).mono ?_
  rintro e w1 ⟨rfl, hb⟩
  go_wp2
  go_ret
  exact ⟨rfl, bT (bA (Below.refl _ _) _) hb⟩

/-- A place, or none: some element is not right, or all are. -/
def Found (z : Bool) (w : World) (e : Ending) (w' : World) : Prop := ∃ v : Int, e = .returned (.int .i64 v) ∧ -1 ≤ v ∧ decide (0 ≤ v) = !z ∧ Below w.heap.size w w'

set_option maxRecDepth 20000 in
set_option maxHeartbeats 1000000 in
theorem index_any (d : Nat) (hd : d ≤ 8) (ih : FitsAt d) (k n : Int) (s : List UInt8) (l : List Rep) (p : Option Addr) (c : Nat) (B : Nat) (w : World) (h : RepIn w (.mk k s n l) p c) (hs : ShortL l) (hll : l.length ≤ 300) (hB : w.cell? ⟨B, 0, none⟩ = some (.int .i64 ((d + 1 : Nat) : Int))) :
    Calls Tryd.prog 69 #[.slice p l.length c, .func (.func 59) #[] #[.pointer (some ⟨B, 0, none⟩)]] w (Found (rightL d l) w) := by
  have hBl := World.block_lt_of_cell? w _ hB
  have hbad : ∀ x ∈ l, ∀ q e W, Below w.heap.size w W → RepIn W x q e → _ := fun x hx q e W hb hr => bad_any d hd ih x q e B W hr (short_mem hs x hx) ((hb.cell (p := ⟨B, 0, none⟩) hBl).trans hB)
  have HBD := Lib.hid hbad
  have H := Lib.hid h
  have HS := Lib.hid hs
  clear hbad h hs hB ih hd
  obtain ⟨L, hL⟩ : ∃ L, L = l.length := ⟨_, rfl⟩
  rw [← hL] at hll ⊢
  have HL := Lib.hid hL
  clear hL
  have eg := enters_of Tryd.func59 (by kernel_rfl) rfl
  go_enter Tryd.func69, Tryd.ntmps69
  go_wp2
  go_loopw [5, 8] (fun _ i wr => ∃ (j : Nat), j ≤ L ∧ i = .int .i64 j ∧ Hid (rightL d l = rightL d (l.drop j)) ∧ Below w.heap.size w wr) (fun _ i _ => L - (intOf i).toNat)
  case atStart => exact ⟨0, Nat.zero_le _, rfl, Lib.hid rfl, Below.refl _ _⟩
  case round =>
    obtain ⟨j, hj, rfl, HM, HB⟩ := hrel
    by_cases hjl : j < L
    · have hd1 : decide ((j : Int) < (L : Int)) = true := decide_eq_true (by omega)
      have hja : j < l.length := by have := HL.out; omega
      have HN1 := Lib.hid (rightL_next d l j hja HM.out)
      have HN2 := Lib.hid (rightL_stop d l j hja HM.out)
      obtain ⟨b, o, q, e, rfl, hc, hi⟩ := H.out.kid j hja
      obtain ⟨e0, e1, e2, e3⟩ := hc.below HB
      have hcall := HBD.out l[j] (List.getElem_mem hja) q e wr HB (RepIn.below HB _ hi)
      clear hi hc H HM
      generalize l[j] = x at *
      clear hja
      unfold repCs at hcall
      generalize right d x = z at *
      have HCL := Lib.hid hcall
      clear hcall
      go_wp2_with fail
      with_reducible refine HCL.out.mono ?_
      rintro e' w1 ⟨rfl, hb1⟩
      clear e0 e1 e2 e3
      have hbw := bT HB hb1
      cases z with
      | true =>
        have HN := Lib.hid (HN1.out rfl)
        go_wp2
        go_roundw
        case rel => exact ⟨j + 1, by omega, by go_num, HN, hbw⟩
        case measure => simp [intOf]; omega
      | false =>
        have HN := Lib.hid (HN2.out rfl)
        go_wp2
        go_ret
        exact ⟨(j : Int), rfl, by omega, by rw [HN.out]; exact decide_eq_true (by omega), hbw⟩
    · have hd1 : decide ((j : Int) < (L : Int)) = false := decide_eq_false (by omega)
      have HN := Lib.hid (show rightL d l = true by rw [HM.out, List.drop_eq_nil_of_le (by have := HL.out; omega)]; rfl)
      go_wp2
      go_ret
      exact ⟨-1, rfl, by omega, by rw [HN.out]; rfl, HB⟩

set_option maxRecDepth 20000 in
set_option maxHeartbeats 400000 in
theorem some_bad (d : Nat) (hd : d ≤ 8) (ih : FitsAt d) (k n : Int) (s : List UInt8) (l : List Rep) (p : Option Addr) (c : Nat) (B : Nat) (w : World) (h : RepIn w (.mk k s n l) p c) (hs : ShortL l) (hll : l.length ≤ 300) (hB : w.cell? ⟨B, 0, none⟩ = some (.int .i64 ((d + 1 : Nat) : Int))) :
    Calls Tryd.prog 60 #[.slice p l.length c, .func (.func 59) #[] #[.pointer (some ⟨B, 0, none⟩)]] w fun e w' => e = .returned (.bool (!rightL d l)) ∧ Below w.heap.size w w' := by
  have HI := Lib.hid (index_any d hd ih k n s l p c B w h hs hll hB)
  clear ih h hs hB
  generalize rightL d l = z at *
  go_enter Tryd.func60, Tryd.ntmps60
  go_wp2_with fail
  with_reducible refine HI.out.mono ?_
  rintro e w' ⟨v, rfl, h0, h2, hb⟩
  go_wp2
  go_ret
  exact ⟨rfl, hb⟩

set_option maxRecDepth 20000 in
set_option maxHeartbeats 1000000 in
theorem rf_5 (l : List Rep) (d : Nat) (hd : d ≤ 8) (ih : FitsAt d) (c : Nat) (p : Option Addr) (w : World) (h : RepIn w (.mk 5 [] 0 l) p c) (hs : ShortL l) (hll : l.length ≤ 300) :
    Calls Tryd.prog 36 #[.agg #[.int .i64 5, .string (bs []), .int .i64 0, .slice p l.length c], .int .i64 ((d + 1 : Nat) : Int)] w fun e w' => e = .returned (.bool (rightL d l)) ∧ Below w.heap.size w w' := by
  have hn := bytes_nil
  have hcall : ∀ W, Below w.heap.size w W → W.cell? ⟨w.heap.size + 1, 0, none⟩ = some (.int .i64 ((d + 1 : Nat) : Int)) → _ := fun W hb hB => some_bad d hd ih 5 0 [] l p c (w.heap.size + 1) W (RepIn.below hb _ h) hs hll hB
  obtain ⟨D, hD⟩ : ∃ D : Int, D = ((d + 1 : Nat) : Int) := ⟨_, rfl⟩
  rw [← hD] at hcall ⊢
  have hD1 : decide ((0 : Int) < D) = true := decide_eq_true (by omega)
  have HCL := Lib.hid hcall
  generalize rightL d l = z at *
  clear hcall hD ih h hs
  go_enter Tryd.func36, Tryd.ntmps36
  go_wp2_with fail
  refine (HCL.out _ (bA (bA (Below.refl _ _) _) _) ?_).mono ?_
  · have := heap_alloc_new (w.alloc (.cells #[.int .i64 5, .string (bs []), .int .i64 0, .slice p l.length c] 26)) (.cells #[.int .i64 D] 3)
    rw [show (w.alloc (.cells #[.int .i64 5, .string (bs []), .int .i64 0, .slice p l.length c] 26)).heap.size = w.heap.size + 1 by simp] at this
    rw [Lib.cell_of_heap this]
    rfl
  rintro e w1 ⟨rfl, hb⟩
  cases z
  all_goals
    go_wp2
    go_ret
    exact ⟨rfl, bT (bA (bA (Below.refl _ _) _) _) hb⟩
end Go.Proofs.YtcikelcecfapcaaDoor

namespace Go.Proofs.YtcikelcecfapcaaDoor
open Go.RowKit Rp

theorem eq_no {a b : Int} (h : a ≠ b) : (a == b) = false := beq_eq_false_iff_ne.2 h

theorem fits_of (d : Nat) (hd : d ≤ 9) (ih : ∀ e, e + 1 = d → FitsAt e) : FitsAt d := by
  intro r p c w h hsh
  obtain ⟨k, s, n, l⟩ := r
  unfold repCs
  simp only [Rep.kind, Rep.str, Rep.num, Rep.kids]
  rw [Short] at hsh
  obtain ⟨hs, hll, hsl⟩ := hsh
  have hs32 : (bs s).size < 4294967281 := by rw [bs_size]; omega
  by_cases k0 : k ≠ 0 ∧ k ≠ 1 ∧ k ≠ 2 ∧ k ≠ 3 ∧ k ≠ 4 ∧ k ≠ 5
  · obtain ⟨h0, h1, h2, h3, h4, h5⟩ := k0
    have : right d (.mk k s n l) = false := by simp only [right]; rw [if_neg (by omega), if_neg (by omega), if_neg (by omega), if_neg (by omega), if_neg (by omega)]
    rw [this]
    exact rf_off k n l.length c p (bs s) d w (eq_no h0) (eq_no h1) (eq_no h2) (eq_no h3) (eq_no h4) (eq_no h5)
  obtain rfl | rfl | rfl | rfl | rfl | rfl : k = 0 ∨ k = 1 ∨ k = 2 ∨ k = 3 ∨ k = 4 ∨ k = 5 := by omega
  · by_cases h2 : n = 0
    · subst h2
      by_cases h1 : l = []
      · subst h1
        rw [show right d (.mk 0 s 0 []) = calm s by simp [right]]
        exact rf_0 c p (bs s) d w hs32 (calm s) rfl
      · rw [show right d (.mk 0 s 0 l) = false by simp [right, h1]]
        exact rf_0l l.length c p (bs s) d w (len_zero h1)
    · rw [show right d (.mk 0 s n l) = false by simp [right, h2]]
      exact rf_0n n l.length c p (bs s) d w (eq_no h2)
  · by_cases h2 : n = 0
    · subst h2
      by_cases h1 : l = []
      · subst h1
        rw [show right d (.mk 1 s 0 []) = calm s by simp [right]]
        exact rf_1 c p (bs s) d w hs32 (calm s) rfl
      · rw [show right d (.mk 1 s 0 l) = false by simp [right, h1]]
        exact rf_1l l.length c p (bs s) d w (len_zero h1)
    · rw [show right d (.mk 1 s n l) = false by simp [right, h2]]
      exact rf_1n n l.length c p (bs s) d w (eq_no h2)
  · by_cases h3 : s = []
    · subst h3
      by_cases h1 : l = []
      · subst h1
        rw [show right d (.mk 2 [] n []) = true by simp [right]]
        exact rf_2 n c p d w
      · rw [show right d (.mk 2 [] n l) = false by simp [right, h1]]
        exact rf_2l n l.length c p d w (len_zero h1)
    · rw [show right d (.mk 2 s n l) = false by simp [right, h3]]
      exact rf_2s n l.length c p (bs s) d w (bytes_ne s h3)
  · by_cases h2 : n = 0
    · subst h2
      by_cases h1 : l = []
      · subst h1
        rw [show right d (.mk 3 s 0 []) = true by simp [right]]
        exact rf_3 c p (bs s) d w
      · rw [show right d (.mk 3 s 0 l) = false by simp [right, h1]]
        exact rf_3l l.length c p (bs s) d w (len_zero h1)
    · rw [show right d (.mk 3 s n l) = false by simp [right, h2]]
      exact rf_3n n l.length c p (bs s) d w (eq_no h2)
  · by_cases h3 : s = []
    · subst h3
      by_cases h2 : n = 0
      · subst h2
        by_cases h1 : l = []
        · subst h1
          rw [show right d (.mk 4 [] 0 []) = true by simp [right]]
          exact rf_4 c p d w
        · rw [show right d (.mk 4 [] 0 l) = false by simp [right, h1]]
          exact rf_4l l.length c p d w (len_zero h1)
      · rw [show right d (.mk 4 [] n l) = false by simp [right, h2]]
        exact rf_4n n l.length c p d w (eq_no h2)
    · rw [show right d (.mk 4 s n l) = false by simp [right, h3]]
      exact rf_4s n l.length c p (bs s) d w (bytes_ne s h3)
  · by_cases h3 : s = []
    · subst h3
      by_cases h2 : n = 0
      · subst h2
        cases d with
        | zero =>
          rw [show right 0 (.mk 5 [] 0 l) = false by simp [right]]
          exact rf_5z l.length c p w
        | succ d =>
          rw [show right (d + 1) (.mk 5 [] 0 l) = rightL d l by simp [right]]
          exact rf_5 l d (by omega) (ih d rfl) c p w h hsl hll
      · rw [show right d (.mk 5 [] n l) = false by simp [right, h2]]
        exact rf_5n n l.length c p d w (eq_no h2)
    · rw [show right d (.mk 5 s n l) = false by simp [right, h3]]
      exact rf_5s n l.length c p (bs s) d w (bytes_ne s h3)

theorem fits_any (d : Nat) : d ≤ 9 → FitsAt d := by
  induction d with
  | zero => exact fun _ => fits_of 0 (by omega) (fun d h => absurd h (by omega))
  | succ d ih => exact fun hd => fits_of (d + 1) hd (fun e h => by obtain rfl : e = d := (by omega); exact ih (by omega))

set_option maxRecDepth 20000 in
set_option maxHeartbeats 400000 in
/-- resp.Right. -/
theorem right_any (r : Rep) (p : Option Addr) (c : Nat) (w : World) (h : RepIn w r p c) (hs : Short r) :
    Calls Tryd.prog 17 #[.agg (repCs r p c)] w fun e w' => e = .returned (.bool (right 4 r)) ∧ Below w.heap.size w w' := by
  have hc : ∀ W, Below w.heap.size w W → _ := fun W hb => fits_any 4 (by omega) r p c W (RepIn.below hb _ h) hs
  unfold repCs at hc ⊢
  have HC := Lib.hid hc
  generalize right 4 r = z at *
  clear hc h hs
  go_enter Tryd.func17, Tryd.ntmps17
  go_wp2_with fail
  refine (HC.out _ (bA (Below.refl _ _) _)).mono ?_
  rintro e w1 ⟨rfl, hb⟩
  go_wp2
  go_ret
  exact ⟨rfl, bT (bA (Below.refl _ _) _) hb⟩

theorem sizeFrom_sum (f : Rep → Nat) : ∀ (l : List Rep) (n : Nat), sizeFrom f n l ≤ 300 → sizeFrom f n l = n + (l.map f).sum
  | [], n, _ => by simp [sizeFrom]
  | r :: rs, n, h => by
    rw [sizeFrom] at h ⊢
    split at h
    · rename_i h1
      rw [if_pos h1, sizeFrom_sum f rs (n + f r) h]
      simp only [List.map_cons, List.sum_cons]
      omega
    · omega
theorem sum_mem (f : Rep → Nat) : ∀ (l : List Rep) (x : Rep), x ∈ l → f x ≤ (l.map f).sum
  | [], x, h => by simp at h
  | r :: rs, x, h => by
    simp only [List.map_cons, List.sum_cons]
    rcases List.mem_cons.1 h with rfl | h
    · omega
    · have := sum_mem f rs x h; omega
theorem sum_len (f : Rep → Nat) (hf : ∀ r, 1 ≤ f r) : ∀ (l : List Rep), l.length ≤ (l.map f).sum
  | [] => by simp
  | r :: rs => by
    simp only [List.map_cons, List.sum_cons, List.length_cons]
    have := hf r
    have := sum_len f hf rs
    omega

/-- A count of 300 or less: nothing in it is long. -/
theorem size_parts {d : Nat} {k : Int} {s : List UInt8} {n : Int} {l : List Rep} (h : size (d + 1) (.mk k s n l) ≤ 300) : s.length ≤ 2000 ∧ size (d + 1) (.mk k s n l) = 1 + (l.map (size d)).sum := by
  rw [size] at h ⊢
  split at h
  · omega
  · rename_i h1
    rw [if_neg h1]
    exact ⟨by omega, sizeFrom_sum (size d) l 1 h⟩
theorem short_of : ∀ (d : Nat) (r : Rep), size d r ≤ 300 → Short r
  | 0, r, h => by simp [size] at h
  | d + 1, .mk k s n l, h => by
    obtain ⟨h1, h2⟩ := size_parts h
    have h3 := sum_len (size d) (size_pos d) l
    rw [Short]
    exact ⟨h1, by omega, short_all fun x hx => short_of d x (by have := sum_mem (size d) l x hx; omega)⟩

/-- How long an encoding is. -/
theorem enc_len {w : World} : ∀ (d : Nat) (r : Rep) (p : Option Addr) (c : Nat), RepIn w r p c → size d r ≤ 300 → (enc r).length ≤ 2100 * size d r
  | 0, r, p, c, _, h => by simp [size] at h
  | d + 1, .mk k s n l, p, c, hr, h => by
    obtain ⟨h1, h2⟩ := size_parts h
    obtain ⟨_, hn, _, _, _, hl⟩ := hr.parts
    have h3 := sum_len (size d) (size_pos d) l
    have hL : (encL l).length ≤ 2100 * (l.map (size d)).sum := by
      have key : ∀ (l' : List Rep) (b o : Nat), RowIn w l' b o → (l'.map (size d)).sum ≤ 300 → (encL l').length ≤ 2100 * (l'.map (size d)).sum := by
        intro l'
        induction l' with
        | nil => intro b o _ _; simp [encL]
        | cons r rs ih =>
          intro b o hrow hs
          rw [RowIn] at hrow
          obtain ⟨⟨p, c, _, _, _, _, h4⟩, h5⟩ := hrow
          simp only [List.map_cons, List.sum_cons] at hs ⊢
          have e1 := ih b (o + 4) h5 (by omega)
          have e2 := enc_len d r p c h4 (by omega)
          simp only [encL, List.length_append]
          omega
      rcases hl with rfl | ⟨b, o, _, hrow⟩
      · simp [encL]
      · exact key l b o hrow (by omega)
    have i1 := itoa_len n hn.1 hn.2
    have i2 := itoa_len (s.length : Int) (by omega) (by omega)
    have i3 := itoa_len (l.length : Int) (by omega) (by omega)
    rw [h2]
    rw [enc]
    split
    · simp only [List.length_cons, List.length_append, List.length_nil]; omega
    split
    · simp only [List.length_cons, List.length_append, List.length_nil]; omega
    split
    · simp only [List.length_cons, List.length_append, List.length_nil]; omega
    split
    · simp only [List.length_cons, List.length_append, List.length_nil]; omega
    split
    · simp only [List.length_cons, List.length_nil]; omega
    · simp only [List.length_cons, List.length_append]; omega
end Go.Proofs.YtcikelcecfapcaaDoor
