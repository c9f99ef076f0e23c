/-
  What resp.encode does: a right reply's encoding is appended.
-/
import Derived.Test.YtkcapbjmhimceaaDoorRespLine
namespace Go.Proofs.YtkcapbjmhimceaaDoor
open Go.RowKit Rp

theorem noBytes_of {w : World} {k : Nat} {cs : Array Value} {T : TypeId} {fr : Nat × Nat} (h : w.heap[k]? = some (.cells cs T fr)) (hT : T ≠ 5) : NoBytes w k := fun cs' fr' e => by
  rw [h] at e
  simp only [Option.some.injEq, Obj.cells.injEq] at e
  exact hT e.2.1

/-- What the line appends. -/
def Wr (B : Nat) (w : World) (ys : List UInt8) (e : Ending) (w' : World) : Prop := e = .returned (.tuple #[]) ∧ ∃ v', Out B v' ys w' ∧ Wrote B w w'

theorem line2 {B : Nat} {v : Value} {xs : List UInt8} {w : World} (hO : Out B v xs w) (G : Nat) (a b : List UInt8) (A C : ByteArray) (hG : w.heap[G]? = some (.cells #[.string A, .string C] 9 (0, 0))) (hA : A = bs a) (hC : C = bs b) (hlen : xs.length + (a.length + b.length) + 2 ≤ 1099511627776) :
    Calls Tryd.prog 30 #[.slice (some ⟨G, 0, none⟩) 2 2, .pointer (some ⟨B, 0, none⟩)] w (Wr B w (xs ++ (a ++ (b ++ [13, 10])))) := by
  subst hA hC
  have hne : G ≠ B := fun e => by
    subst e
    have := hO.var
    rw [hG] at this
    simp at this
  have h := line_any B G 2 v xs [a, b] w hO hne (.inr (noBytes_of hG (by decide))) (Array.getElem?_eq_some_iff.1 hG).1 (fun j hj => ?_) (by show 2 ≤ 1099511627776; omega) (by simpa using hlen)
  · have e : xs ++ ([a, b].flatten ++ [13, 10]) = xs ++ (a ++ (b ++ [13, 10])) := by simp
    rw [e] at h
    exact h
  · match j, hj with
    | 0, _ => rw [Lib.cell_of_heap hG]; rfl
    | 1, _ => rw [Lib.cell_of_heap hG]; rfl

theorem line1 {B : Nat} {v : Value} {xs : List UInt8} {w : World} (hO : Out B v xs w) (G : Nat) (a : List UInt8) (A : ByteArray) (hG : w.heap[G]? = some (.cells #[.string A] 9 (0, 0))) (hA : A = bs a) (hlen : xs.length + a.length + 2 ≤ 1099511627776) :
    Calls Tryd.prog 30 #[.slice (some ⟨G, 0, none⟩) 1 1, .pointer (some ⟨B, 0, none⟩)] w (Wr B w (xs ++ (a ++ [13, 10]))) := by
  subst hA
  have hne : G ≠ B := fun e => by
    subst e
    have := hO.var
    rw [hG] at this
    simp at this
  have h := line_any B G 1 v xs [a] w hO hne (.inr (noBytes_of hG (by decide))) (Array.getElem?_eq_some_iff.1 hG).1 (fun j hj => ?_) (by show 1 ≤ 1099511627776; omega) (by simpa using hlen)
  · have e : xs ++ ([a].flatten ++ [13, 10]) = xs ++ (a ++ [13, 10]) := by simp
    rw [e] at h
    exact h
  · match j, hj with
    | 0, _ => rw [Lib.cell_of_heap hG]; rfl

theorem two_heap (w : World) (o : Obj) (o2 : Obj) (k : Nat) (h : k = w.heap.size + 1) : ((w.alloc o).alloc o2).heap[k]? = some o2 := by
  subst h
  have := heap_alloc_new (w.alloc o) o2
  rwa [show (w.alloc o).heap.size = w.heap.size + 1 by simp] at this

theorem wr_mk {B : Nat} {w w1 w2 : World} {v : Value} {ys : List UInt8} (hb : Wrote B w w1) (hO : Out B v ys w2) (hW : Wrote B w1 w2) : Wr B w ys (.returned (.tuple #[])) w2 := ⟨rfl, v, hO, hb.trans hW⟩

set_option maxRecDepth 20000 in
set_option maxHeartbeats 1000000 in
theorem enc_0 (B : Nat) (v : Value) (xs : List UInt8) (s : List UInt8) (c : Nat) (p : Option Addr) (w : World) (hO : Out B v xs w) (hlen : xs.length + (1 + s.length) + 2 ≤ 1099511627776) :
    Calls Tryd.prog 31 #[.agg #[.int .i64 0, .string (bs s), .int .i64 0, .slice p 0 c], .func (.func 30) #[] #[.pointer (some ⟨B, 0, none⟩)]] w (Wr B w (xs ++ (43 :: (s ++ [13, 10])))) := by
  have eg := enters_of Tryd.func30 (by kernel_rfl) rfl
  obtain ⟨S, hS⟩ : ∃ S, S = bs s := ⟨_, rfl⟩
  have hSz : S.size = s.length := by rw [hS]; exact bs_size s
  rw [← hS]
  have HS := Lib.hid hS
  clear hS
  clear hSz
  go_enter Tryd.func31, Tryd.ntmps31
  go_wp2_with fail
  refine (line2 (hO.below (bA (bA (Below.refl _ _) _) _)) _ [43] s _ _ (two_heap _ _ _ _ rfl) rfl HS.out (by simpa using hlen)).mono ?_
  rintro e w1 ⟨rfl, v1, hO1, hW1⟩
  go_wp2
  go_end0
  exact wr_mk (.of_below (bA (bA (Below.refl _ _) _) _)) hO1 hW1

set_option maxRecDepth 20000 in
set_option maxHeartbeats 1000000 in
theorem enc_1 (B : Nat) (v : Value) (xs : List UInt8) (s : List UInt8) (c : Nat) (p : Option Addr) (w : World) (hO : Out B v xs w) (hlen : xs.length + (1 + s.length) + 2 ≤ 1099511627776) :
    Calls Tryd.prog 31 #[.agg #[.int .i64 1, .string (bs s), .int .i64 0, .slice p 0 c], .func (.func 30) #[] #[.pointer (some ⟨B, 0, none⟩)]] w (Wr B w (xs ++ (45 :: (s ++ [13, 10])))) := by
  have eg := enters_of Tryd.func30 (by kernel_rfl) rfl
  obtain ⟨S, hS⟩ : ∃ S, S = bs s := ⟨_, rfl⟩
  have hSz : S.size = s.length := by rw [hS]; exact bs_size s
  rw [← hS]
  have HS := Lib.hid hS
  clear hS
  clear hSz
  go_enter Tryd.func31, Tryd.ntmps31
  go_wp2_with fail
  refine (line2 (hO.below (bA (bA (Below.refl _ _) _) _)) _ [45] s _ _ (two_heap _ _ _ _ rfl) rfl HS.out (by simpa using hlen)).mono ?_
  rintro e w1 ⟨rfl, v1, hO1, hW1⟩
  go_wp2
  go_end0
  exact wr_mk (.of_below (bA (bA (Below.refl _ _) _) _)) hO1 hW1

set_option maxRecDepth 20000 in
set_option maxHeartbeats 1000000 in
theorem enc_2 (B : Nat) (v : Value) (xs : List UInt8) (n : Int) (hn : Fits n) (c : Nat) (p : Option Addr) (w : World) (hT : Tens w) (hO : Out B v xs w) (hlen : xs.length + (1 + (Lib.itoa n).length) + 2 ≤ 1099511627776) :
    Calls Tryd.prog 31 #[.agg #[.int .i64 2, .string (bs []), .int .i64 n, .slice p 0 c], .func (.func 30) #[] #[.pointer (some ⟨B, 0, none⟩)]] w (Wr B w (xs ++ (58 :: (Lib.itoa n ++ [13, 10])))) := by
  have eg := enters_of Tryd.func30 (by kernel_rfl) rfl
  have HP : ∀ W, Below w.heap.size w W → _ := fun W hb => print_any n hn W (hT.on hb)
  have HPH := Lib.hid HP
  clear HP
  obtain ⟨N, hN⟩ : ∃ N, N = numText n := ⟨_, rfl⟩
  rw [← hN] at HPH
  have HN := Lib.hid (show N = bs (Lib.itoa n) from hN)
  clear hN
  go_enter Tryd.func31, Tryd.ntmps31
  go_wp2_with fail
  refine (HPH.out _ (bA (Below.refl _ _) _)).mono ?_
  rintro e w1 ⟨rfl, hb1⟩
  go_wp2_with fail
  have hb2 : Below w.heap.size w w1 := bT (bA (Below.refl _ _) _) hb1
  refine (line2 (hO.below (bA hb2 _)) _ [58] (Lib.itoa n) _ _ (heap_alloc_new w1 _) rfl HN.out (by simpa using hlen)).mono ?_
  rintro e w2 ⟨rfl, v1, hO1, hW1⟩
  go_wp2
  go_end0
  exact wr_mk (.of_below (bA hb2 _)) hO1 hW1

set_option maxRecDepth 20000 in
set_option maxHeartbeats 1000000 in
theorem enc_4 (B : Nat) (v : Value) (xs : List UInt8) (c : Nat) (p : Option Addr) (w : World) (hO : Out B v xs w) (hlen : xs.length + 5 ≤ 1099511627776) :
    Calls Tryd.prog 31 #[.agg #[.int .i64 4, .string (bs []), .int .i64 0, .slice p 0 c], .func (.func 30) #[] #[.pointer (some ⟨B, 0, none⟩)]] w (Wr B w (xs ++ [36, 45, 49, 13, 10])) := by
  have eg := enters_of Tryd.func30 (by kernel_rfl) rfl
  go_enter Tryd.func31, Tryd.ntmps31
  go_wp2_with fail
  refine (line2 (hO.below (bA (bA (Below.refl _ _) _) _)) _ [36] [45, 49] _ _ (two_heap _ _ _ _ rfl) rfl rfl (by simpa using hlen)).mono ?_
  rintro e w1 ⟨rfl, v1, hO1, hW1⟩
  go_wp2
  go_end0
  exact wr_mk (.of_below (bA (bA (Below.refl _ _) _) _)) hO1 hW1

set_option maxRecDepth 20000 in
set_option maxHeartbeats 1000000 in
theorem enc_3 (B : Nat) (v : Value) (xs : List UInt8) (s : List UInt8) (hs : s.length ≤ 1099511627776) (c : Nat) (p : Option Addr) (w : World) (hT : Tens w) (hO : Out B v xs w) (hlen : xs.length + (1 + (Lib.itoa s.length).length + 2 + s.length + 2) ≤ 1099511627776) :
    Calls Tryd.prog 31 #[.agg #[.int .i64 3, .string (bs s), .int .i64 0, .slice p 0 c], .func (.func 30) #[] #[.pointer (some ⟨B, 0, none⟩)]] w (Wr B w (xs ++ (36 :: (Lib.itoa s.length ++ 13 :: 10 :: (s ++ [13, 10]))))) := by
  have eg := enters_of Tryd.func30 (by kernel_rfl) rfl
  obtain ⟨S, hS⟩ : ∃ S, S = bs s := ⟨_, rfl⟩
  have hSz : S.size = s.length := by rw [hS]; exact bs_size s
  rw [← hS]
  have HS := Lib.hid hS
  clear hS
  have hf : Fits (s.length : Int) := ⟨by omega, by omega⟩
  obtain ⟨n, hn⟩ : ∃ n : Nat, n = s.length := ⟨_, rfl⟩
  rw [← hn] at hf hSz hlen ⊢
  have HNS := Lib.hid hn
  clear hn
  have HP : ∀ W, Below w.heap.size w W → _ := fun W hb => print_any n hf W (hT.on hb)
  have HPH := Lib.hid HP
  clear HP hf
  obtain ⟨N, hN⟩ : ∃ N, N = numText n := ⟨_, rfl⟩
  rw [← hN] at HPH
  have HN := Lib.hid (show N = bs (Lib.itoa n) from hN)
  clear hN
  have hbl := hO.lt
  go_enter Tryd.func31, Tryd.ntmps31
  go_wp2_with fail
  refine (HPH.out _ (bA (Below.refl _ _) _)).mono ?_
  rintro e w1 ⟨rfl, hb1⟩
  go_wp2_with fail
  have hb2 : Below w.heap.size w w1 := bT (bA (Below.refl _ _) _) hb1
  have hbox : w1.heap[w.heap.size]? = some (.cells #[.int .i64 3, .string S, .int .i64 0, .slice p 0 c] 26 (0, 0)) := (hb1.block _ (by simp)).trans (heap_alloc_new w _)
  have hboxl := (Array.getElem?_eq_some_iff.1 hbox).1
  refine (line2 (hO.below (bA hb2 _)) _ [36] (Lib.itoa n) _ _ (heap_alloc_new w1 _) rfl HN.out (by simp; omega)).mono ?_
  rintro e w2 ⟨rfl, v1, hO1, hW1⟩
  have hbox1 := (Below.heap_alloc w1 (.cells #[.string ⟨#[36]⟩, .string N] 9) _ hboxl).trans hbox
  have hbox2 := (hW1.block w.heap.size (by simp; omega) (by omega) (.inr (noBytes_of hbox1 (by decide)))).trans hbox1
  have c1 : w2.cell? ⟨w.heap.size, 1, none⟩ = some (.string S) := by rw [Lib.cell_of_heap hbox2]; rfl
  clear hbox hbox1 hbox2
  have HO1 := Lib.hid hO1
  have HW1 := Lib.hid hW1
  clear hO1 hW1
  go_wp2_with fail
  refine (line1 (HO1.out.below (bA (Below.refl _ _) _)) _ s _ (heap_alloc_new w2 _) HS.out (by simp; have := HNS.out; omega)).mono ?_
  rintro e w3 ⟨rfl, v2, hO2, hW2⟩
  have e1 : (xs ++ ([36] ++ (Lib.itoa n ++ [13, 10]))) ++ (s ++ [13, 10]) = xs ++ (36 :: (Lib.itoa n ++ 13 :: 10 :: (s ++ [13, 10]))) := by simp
  rw [e1] at hO2
  have HF := Lib.hid (wr_mk (((Wrote.of_below (bA hb2 _)).trans HW1.out).below (bA (Below.refl _ _) _)) hO2 hW2)
  clear hO2 hW2 c1 e1
  go_wp2
  go_end0
  exact HF.out

end Go.Proofs.YtkcapbjmhimceaaDoor
