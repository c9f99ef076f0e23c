/-
  What resp.fits and resp.Right answer: is a reply right?
-/
import Derived.Test.YtkcapbjmhimceaaDoorRespFitsA
import Derived.Test.YtkcapbjmhimceaaDoorRespRight5
import Derived.Test.YtkcapbjmhimceaaDoorRespSame
namespace Go.Proofs.YtkcapbjmhimceaaDoor
open Go.RowKit Rp

mutual
/-- Its strings have 2000 bytes at most, and it has 300 elements at most; so have its elements. -/
def Short : Rep → Prop
  | .mk _ s _ l => s.length ≤ 2000 ∧ l.length ≤ 300 ∧ ShortL l
def ShortL : List Rep → Prop
  | [] => True
  | r :: rs => Short r ∧ ShortL rs
end
theorem short_mem : ∀ {l : List Rep}, ShortL l → ∀ x ∈ l, Short x
  | [], _, x, hx => by simp at hx
  | r :: rs, h, x, hx => by
    rw [ShortL] at h
    rcases List.mem_cons.1 hx with rfl | hx
    · exact h.1
    · exact short_mem h.2 x hx
theorem short_all : ∀ {l : List Rep}, (∀ x ∈ l, Short x) → ShortL l
  | [], _ => by rw [ShortL]; trivial
  | r :: rs, h => by
    rw [ShortL]
    exact ⟨h r (by simp), short_all fun x hx => h x (by simp [hx])⟩

/-- fits' contract at a depth. -/
def FitsAt (d : Nat) : Prop := ∀ (r : Rep) (p : Option Addr) (c : Nat) (w : World), RepIn w r p c → Short r →
    Calls Tryd.prog 29 #[.agg (repCs r p c), .int .i64 d] w fun e w' => e = .returned (.bool (right d r)) ∧ Below w.heap.size w w'

set_option maxRecDepth 20000 in
set_option maxHeartbeats 400000 in
theorem bad_any (d : Nat) (hd : d ≤ 8) (ih : FitsAt d) (r : Rep) (p : Option Addr) (c : Nat) (B : Nat) (w : World) (h : RepIn w r p c) (hs : Short r) (hB : w.cell? ⟨B, 0, none⟩ = some (.int .i64 ((d + 1 : Nat) : Int))) :
    Calls Tryd.prog 38 #[.agg (repCs r p c), .pointer (some ⟨B, 0, none⟩)] w fun e w' => e = .returned (.bool (!right d r)) ∧ Below w.heap.size w w' := by
  have hc : ∀ W, Below w.heap.size w W → _ := fun W hb => ih r p c W (RepIn.below hb _ h) hs
  unfold repCs at hc ⊢
  obtain ⟨D, hD⟩ : ∃ D : Int, D = ((d + 1 : Nat) : Int) := ⟨_, rfl⟩
  rw [← hD] at hB
  have hdm : D - 1 = (d : Int) := by omega
  have hD1 : 1 ≤ D := by omega
  have hD9 : D ≤ 9 := by omega
  have hd8 : d ≤ 8 := by omega
  have hBl := World.block_lt_of_cell? w _ hB
  have HC := Lib.hid hc
  generalize right d r = z at *
  clear hc hD ih h hs
  go_enter Tryd.func38, Tryd.ntmps38
  go_wp2_with fail
  refine (HC.out _ (bA (Below.refl _ _) _)).mono ?_
  rintro e w1 ⟨rfl, hb⟩
  go_wp2
  go_ret
  exact ⟨rfl, bT (bA (Below.refl _ _) _) hb⟩

/-- A place, or none: some element is not right, or all are. -/
def Found (z : Bool) (w : World) (e : Ending) (w' : World) : Prop := ∃ v : Int, e = .returned (.int .i64 v) ∧ -1 ≤ v ∧ decide (0 ≤ v) = !z ∧ Below w.heap.size w w'

set_option maxRecDepth 20000 in
set_option maxHeartbeats 1000000 in
theorem index_any (d : Nat) (hd : d ≤ 8) (ih : FitsAt d) (k n : Int) (s : List UInt8) (l : List Rep) (p : Option Addr) (c : Nat) (B : Nat) (w : World) (h : RepIn w (.mk k s n l) p c) (hs : ShortL l) (hll : l.length ≤ 300) (hB : w.cell? ⟨B, 0, none⟩ = some (.int .i64 ((d + 1 : Nat) : Int))) :
    Calls Tryd.prog 45 #[.slice p l.length c, .func (.func 38) #[] #[.pointer (some ⟨B, 0, none⟩)]] w (Found (rightL d l) w) := by
  have hBl := World.block_lt_of_cell? w _ hB
  have hbad : ∀ x ∈ l, ∀ q e W, Below w.heap.size w W → RepIn W x q e → _ := fun x hx q e W hb hr => bad_any d hd ih x q e B W hr (short_mem hs x hx) ((hb.cell (p := ⟨B, 0, none⟩) hBl).trans hB)
  have HBD := Lib.hid hbad
  have H := Lib.hid h
  have HS := Lib.hid hs
  clear hbad h hs hB ih hd
  obtain ⟨L, hL⟩ : ∃ L, L = l.length := ⟨_, rfl⟩
  rw [← hL] at hll ⊢
  have HL := Lib.hid hL
  clear hL
  have eg := enters_of Tryd.func38 (by kernel_rfl) rfl
  go_enter Tryd.func45, Tryd.ntmps45
  go_wp2
  go_loopw [5, 8] (fun _ i wr => ∃ (j : Nat), j ≤ L ∧ i = .int .i64 j ∧ Hid (rightL d l = rightL d (l.drop j)) ∧ Below w.heap.size w wr) (fun _ i _ => L - (intOf i).toNat)
  case atStart => exact ⟨0, Nat.zero_le _, rfl, Lib.hid rfl, Below.refl _ _⟩
  case round =>
    obtain ⟨j, hj, rfl, HM, HB⟩ := hrel
    by_cases hjl : j < L
    · have hd1 : decide ((j : Int) < (L : Int)) = true := decide_eq_true (by omega)
      have hja : j < l.length := by have := HL.out; omega
      have HN1 := Lib.hid (rightL_next d l j hja HM.out)
      have HN2 := Lib.hid (rightL_stop d l j hja HM.out)
      obtain ⟨b, o, q, e, rfl, hc, hi⟩ := H.out.kid j hja
      obtain ⟨e0, e1, e2, e3⟩ := hc.below HB
      have hcall := HBD.out l[j] (List.getElem_mem hja) q e wr HB (RepIn.below HB _ hi)
      clear hi hc H HM
      generalize l[j] = x at *
      clear hja
      unfold repCs at hcall
      generalize right d x = z at *
      have HCL := Lib.hid hcall
      clear hcall
      go_wp2_with fail
      with_reducible refine HCL.out.mono ?_
      rintro e' w1 ⟨rfl, hb1⟩
      clear e0 e1 e2 e3
      have hbw := bT HB hb1
      cases z with
      | true =>
        have HN := Lib.hid (HN1.out rfl)
        go_wp2
        go_roundw
        case rel => exact ⟨j + 1, by omega, by go_num, HN, hbw⟩
        case measure => simp [intOf]; omega
      | false =>
        have HN := Lib.hid (HN2.out rfl)
        go_wp2
        go_ret
        exact ⟨(j : Int), rfl, by omega, by rw [HN.out]; exact decide_eq_true (by omega), hbw⟩
    · have hd1 : decide ((j : Int) < (L : Int)) = false := decide_eq_false (by omega)
      have HN := Lib.hid (show rightL d l = true by rw [HM.out, List.drop_eq_nil_of_le (by have := HL.out; omega)]; rfl)
      go_wp2
      go_ret
      exact ⟨-1, rfl, by omega, by rw [HN.out]; rfl, HB⟩

set_option maxRecDepth 20000 in
set_option maxHeartbeats 400000 in
theorem some_bad (d : Nat) (hd : d ≤ 8) (ih : FitsAt d) (k n : Int) (s : List UInt8) (l : List Rep) (p : Option Addr) (c : Nat) (B : Nat) (w : World) (h : RepIn w (.mk k s n l) p c) (hs : ShortL l) (hll : l.length ≤ 300) (hB : w.cell? ⟨B, 0, none⟩ = some (.int .i64 ((d + 1 : Nat) : Int))) :
    Calls Tryd.prog 39 #[.slice p l.length c, .func (.func 38) #[] #[.pointer (some ⟨B, 0, none⟩)]] w fun e w' => e = .returned (.bool (!rightL d l)) ∧ Below w.heap.size w w' := by
  have HI := Lib.hid (index_any d hd ih k n s l p c B w h hs hll hB)
  clear ih h hs hB
  generalize rightL d l = z at *
  go_enter Tryd.func39, Tryd.ntmps39
  go_wp2_with fail
  with_reducible refine HI.out.mono ?_
  rintro e w' ⟨v, rfl, h0, h2, hb⟩
  go_wp2
  go_ret
  exact ⟨rfl, hb⟩

set_option maxRecDepth 20000 in
set_option maxHeartbeats 1000000 in
theorem rf_5 (l : List Rep) (d : Nat) (hd : d ≤ 8) (ih : FitsAt d) (c : Nat) (p : Option Addr) (w : World) (h : RepIn w (.mk 5 [] 0 l) p c) (hs : ShortL l) (hll : l.length ≤ 300) :
    Calls Tryd.prog 29 #[.agg #[.int .i64 5, .string (bs []), .int .i64 0, .slice p l.length c], .int .i64 ((d + 1 : Nat) : Int)] w fun e w' => e = .returned (.bool (rightL d l)) ∧ Below w.heap.size w w' := by
  have hn := bytes_nil
  have hcall : ∀ W, Below w.heap.size w W → W.cell? ⟨w.heap.size + 1, 0, none⟩ = some (.int .i64 ((d + 1 : Nat) : Int)) → _ := fun W hb hB => some_bad d hd ih 5 0 [] l p c (w.heap.size + 1) W (RepIn.below hb _ h) hs hll hB
  obtain ⟨D, hD⟩ : ∃ D : Int, D = ((d + 1 : Nat) : Int) := ⟨_, rfl⟩
  rw [← hD] at hcall ⊢
  have hD1 : decide ((0 : Int) < D) = true := decide_eq_true (by omega)
  have HCL := Lib.hid hcall
  generalize rightL d l = z at *
  clear hcall hD ih h hs
  go_enter Tryd.func29, Tryd.ntmps29
  go_wp2_with fail
  refine (HCL.out _ (bA (bA (Below.refl _ _) _) _) ?_).mono ?_
  · have := heap_alloc_new (w.alloc (.cells #[.int .i64 5, .string (bs []), .int .i64 0, .slice p l.length c] 26)) (.cells #[.int .i64 D] 3)
    rw [show (w.alloc (.cells #[.int .i64 5, .string (bs []), .int .i64 0, .slice p l.length c] 26)).heap.size = w.heap.size + 1 by simp] at this
    rw [Lib.cell_of_heap this]
    rfl
  rintro e w1 ⟨rfl, hb⟩
  cases z
  all_goals
    go_wp2
    go_ret
    exact ⟨rfl, bT (bA (bA (Below.refl _ _) _) _) hb⟩
end Go.Proofs.YtkcapbjmhimceaaDoor
