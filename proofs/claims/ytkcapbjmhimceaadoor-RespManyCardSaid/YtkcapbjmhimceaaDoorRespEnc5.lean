/-
  What resp.encode does of an array; whole.
-/
import Derived.Test.YtkcapbjmhimceaaDoorRespEnc
namespace Go.Proofs.YtkcapbjmhimceaaDoor
open Go.RowKit Rp

theorem encL_append : ∀ (a b : List Rep), encL (a ++ b) = encL a ++ encL b
  | [], b => by simp [encL]
  | r :: rs, b => by simp [encL, encL_append rs b]
theorem encL_next (l : List Rep) (j : Nat) (h : j < l.length) : encL (l.take (j + 1)) = encL (l.take j) ++ enc l[j] := by
  rw [List.take_succ_eq_append_getElem h, encL_append]
  simp [encL]
theorem encL_le (l : List Rep) (j : Nat) (h : j < l.length) : (encL (l.take j)).length + (enc l[j]).length ≤ (encL l).length := by
  have h1 : encL l = encL (l.take (j + 1)) ++ encL (l.drop (j + 1)) := by rw [← encL_append, List.take_append_drop]
  rw [h1, encL_next l j h, List.length_append, List.length_append]
  omega

/-- What encode does of a reply. -/
def EncAt (r : Rep) : Prop := ∀ (d : Nat) (p : Option Addr) (c : Nat) (w0 w : World) (B : Nat) (v : Value) (xs : List UInt8), RepIn w0 r p c → Below w0.heap.size w0 w → w0.heap.size ≤ B → Tens w0 → right d r = true → Out B v xs w → xs.length + (enc r).length ≤ 1099511627776 →
    Calls Tryd.prog 31 #[.agg (repCs r p c), .func (.func 30) #[] #[.pointer (some ⟨B, 0, none⟩)]] w (Wr B w (xs ++ enc r))

theorem Wrote.since {B : Nat} {w0 w w1 : World} (h0 : Below w0.heap.size w0 w) (hB : w0.heap.size ≤ B) (hBl : B < w.heap.size) (h : Wrote B w w1) : Below w0.heap.size w0 w1 := h0.trans ((h.ahead hBl).mono hB)

set_option maxRecDepth 20000 in
set_option maxHeartbeats 2000000 in
theorem enc_5 (l : List Rep) (ih : ∀ x ∈ l, EncAt x) (d : Nat) (p : Option Addr) (c : Nat) (w0 w : World) (B : Nat) (v : Value) (xs : List UInt8) (h : RepIn w0 (.mk 5 [] 0 l) p c) (h0 : Below w0.heap.size w0 w) (hB : w0.heap.size ≤ B) (hT : Tens w0) (hr : rightL d l = true) (hO : Out B v xs w) (hlen : xs.length + (1 + (Lib.itoa l.length).length + 2 + (encL l).length) ≤ 1099511627776) :
    Calls Tryd.prog 31 #[.agg #[.int .i64 5, .string (bs []), .int .i64 0, .slice p l.length c], .func (.func 30) #[] #[.pointer (some ⟨B, 0, none⟩)]] w (Wr B w (xs ++ (42 :: (Lib.itoa l.length ++ 13 :: 10 :: encL l)))) := by
  have eg := enters_of Tryd.func30 (by kernel_rfl) rfl
  have hl63 : l.length ≤ 9223372036854775807 := by
    obtain ⟨_, _, _, h1, h2, _⟩ := h.parts
    unfold maxLen at h2; omega
  have hbl := hO.lt
  have H := Lib.hid h
  have HR := Lib.hid hr
  have IH := Lib.hid ih
  clear h hr ih
  obtain ⟨n, hn⟩ : ∃ n : Nat, n = l.length := ⟨_, rfl⟩
  rw [← hn] at hl63 hlen ⊢
  have HNL := Lib.hid hn
  clear hn
  have hf : Fits (n : Int) := ⟨by omega, by omega⟩
  have HP : ∀ W, Below w.heap.size w W → _ := fun W hb => print_any n hf W ((hT.on h0).on hb)
  have HPH := Lib.hid HP
  clear HP hf
  obtain ⟨N, hN⟩ : ∃ N, N = numText n := ⟨_, rfl⟩
  rw [← hN] at HPH
  have HN := Lib.hid (show N = bs (Lib.itoa n) from hN)
  clear hN
  go_enter Tryd.func31, Tryd.ntmps31
  go_wp2_with fail
  refine (HPH.out _ (bA (Below.refl _ _) _)).mono ?_
  rintro e w1 ⟨rfl, hb1⟩
  go_wp2_with fail
  have hb2 : Below w.heap.size w w1 := bT (bA (Below.refl _ _) _) hb1
  have hbox : w1.heap[w.heap.size]? = some (.cells #[.int .i64 5, .string (bs []), .int .i64 0, .slice p n c] 26 (0, 0)) := (hb1.block _ (by simp)).trans (heap_alloc_new w _)
  have hboxl := (Array.getElem?_eq_some_iff.1 hbox).1
  refine (line2 (hO.below (bA hb2 _)) _ [42] (Lib.itoa n) _ _ (heap_alloc_new w1 _) rfl HN.out (by simp; omega)).mono ?_
  rintro e w2 ⟨rfl, v1, hO1, hW1⟩
  have hbox1 := (Below.heap_alloc w1 (.cells #[.string ⟨#[42]⟩, .string N] 9) _ hboxl).trans hbox
  have hbox2 := (hW1.block w.heap.size (by simp; omega) (by omega) (.inr (noBytes_of hbox1 (by decide)))).trans hbox1
  have c3 : w2.cell? ⟨w.heap.size, 3, none⟩ = some (.slice p n c) := by rw [Lib.cell_of_heap hbox2]; rfl
  clear hbox hbox1 hbox2
  obtain ⟨X1, hX1⟩ : ∃ X1, X1 = xs ++ ([42] ++ (Lib.itoa n ++ [13, 10])) := ⟨_, rfl⟩
  rw [← hX1] at hO1
  have hX1l : X1.length + (encL l).length ≤ 1099511627776 := by rw [hX1]; simp; omega
  have HX1 := Lib.hid hX1
  have HW := Lib.hid ((Wrote.of_below (bA hb2 _)).trans hW1)
  clear hX1 hW1 hb2 hb1 hbl
  go_wp2
  go_loopw [61] (fun i wr => ∃ (j : Nat) (u : Value) (X : List UInt8), j ≤ n ∧ i = .int .i64 j ∧ Hid (X = X1 ++ encL (l.take j)) ∧ Out B u X wr ∧ Wrote B w wr) (fun i _ => n - (intOf i).toNat)
  case atStart => exact ⟨0, v1, X1, Nat.zero_le _, rfl, Lib.hid (by simp [encL]), hO1, HW.out⟩
  case round =>
    clear c3 hO1
    obtain ⟨j, u, X, hj, rfl, HX, hO2, hW⟩ := hrel
    by_cases hjl : j < n
    · have hd1 : decide ((j : Int) < (n : Int)) = true := decide_eq_true (by omega)
      have hja : j < l.length := by have := HNL.out; omega
      have hle := encL_le l j hja
      have hXl : X.length = X1.length + (encL (l.take j)).length := by rw [HX.out, List.length_append]
      have HNX := Lib.hid (encL_next l j hja)
      have hsin := Wrote.since h0 hB (hO.lt) hW
      obtain ⟨b, o, q, e, rfl, hc, hi⟩ := H.out.kid j hja
      obtain ⟨e0, e1, e2, e3⟩ := hc.below hsin
      have hcall : ∀ W, Below wr.heap.size wr W → _ := fun W hb => IH.out l[j] (List.getElem_mem hja) d q e w0 W B u X hi (hsin.trans (hb.mono hsin.size)) hB hT (rightL_mem HR.out _ (List.getElem_mem hja)) (hO2.below hb) (by omega)
      clear hi hc hle hXl
      generalize l[j] = x at *
      unfold repCs at hcall
      generalize enc x = ex at *
      have HCL := Lib.hid hcall
      clear hcall hsin hja hO2
      go_wp2_with fail
      refine (HCL.out _ (bA (Below.refl _ _) _)).mono ?_
      rintro e' w3 ⟨rfl, u', hO3, hW3⟩
      have HO3 := Lib.hid hO3
      have HW3 := Lib.hid (hW.trans ((Wrote.of_below (bA (Below.refl _ _) _)).trans hW3))
      clear hO3 hW3 e0 e1 e2 e3
      go_wp2
      go_roundw
      case rel => exact ⟨j + 1, u', X ++ ex, by omega, by go_num, Lib.hid (by rw [HNX.out, HX.out, List.append_assoc]), HO3.out, HW3.out⟩
      case measure => simp [intOf]; omega
    · have hd1 : decide ((j : Int) < (n : Int)) = false := decide_eq_false (by omega)
      have hE : X = xs ++ (42 :: (Lib.itoa n ++ 13 :: 10 :: encL l)) := by
        rw [HX.out, HX1.out, List.take_of_length_le (by have := HNL.out; omega)]
        simp
      rw [hE] at hO2
      have HO2 := Lib.hid hO2
      clear hE hO2
      go_wp2
      go_end0
      exact ⟨rfl, _, HO2.out, hW⟩

/-- resp.encode. -/
theorem enc_any (r : Rep) : EncAt r := by
  refine Rep.ind (p := EncAt) ?_ r
  intro k s n l ih d p c w0 w B v xs h h0 hB hT hr hO hlen
  unfold repCs
  simp only [Rep.kind, Rep.str, Rep.num, Rep.kids]
  obtain ⟨hk, hn, hs, hl, hc, hlast⟩ := h.parts
  simp only [right] at hr
  by_cases k0 : k = 0
  · subst k0
    simp at hr
    obtain ⟨⟨rfl, rfl⟩, hcm⟩ := hr
    simp only [enc, if_true, List.length_cons, List.length_append, List.length_nil] at hlen ⊢
    exact enc_0 B v xs s c p w hO (by omega)
  by_cases k1 : k = 1
  · subst k1
    simp at hr
    obtain ⟨⟨rfl, rfl⟩, hcm⟩ := hr
    simp [enc] at hlen ⊢
    exact enc_1 B v xs s c p w hO (by omega)
  by_cases k2 : k = 2
  · subst k2
    simp at hr
    obtain ⟨rfl, rfl⟩ := hr
    simp [enc] at hlen ⊢
    exact enc_2 B v xs n hn c p w (hT.on h0) hO (by omega)
  by_cases k3 : k = 3
  · subst k3
    simp at hr
    obtain ⟨rfl, rfl⟩ := hr
    simp [enc] at hlen
    have e : enc (.mk 3 s 0 []) = 36 :: (Lib.itoa s.length ++ 13 :: 10 :: (s ++ [13, 10])) := by simp [enc]
    rw [e]
    exact enc_3 B v xs s (by omega) c p w (hT.on h0) hO (by omega)
  by_cases k4 : k = 4
  · subst k4
    simp at hr
    obtain ⟨⟨rfl, rfl⟩, rfl⟩ := hr
    simp [enc] at hlen ⊢
    exact enc_4 B v xs c p w hO (by omega)
  by_cases k5 : k = 5
  · subst k5
    simp at hr
    obtain ⟨⟨rfl, rfl⟩, hr⟩ := hr
    cases d with
    | zero => simp at hr
    | succ d =>
      simp [enc] at hlen
      have e : enc (.mk 5 [] 0 l) = 42 :: (Lib.itoa l.length ++ 13 :: 10 :: encL l) := by simp [enc]
      rw [e]
      exact enc_5 l ih d p c w0 w B v xs h h0 hB hT hr hO (by omega)
  · simp [k0, k1, k2, k3, k4, k5] at hr
end Go.Proofs.YtkcapbjmhimceaaDoor
