/-
  What resp.fits and resp.Right answer, whole.
-/
import Derived.Test.YtkcapbjmhimceaaDoorRespFits
namespace Go.Proofs.YtkcapbjmhimceaaDoor
open Go.RowKit Rp

theorem eq_no {a b : Int} (h : a ≠ b) : (a == b) = false := beq_eq_false_iff_ne.2 h

theorem fits_of (d : Nat) (hd : d ≤ 9) (ih : ∀ e, e + 1 = d → FitsAt e) : FitsAt d := by
  intro r p c w h hsh
  obtain ⟨k, s, n, l⟩ := r
  unfold repCs
  simp only [Rep.kind, Rep.str, Rep.num, Rep.kids]
  rw [Short] at hsh
  obtain ⟨hs, hll, hsl⟩ := hsh
  have hs32 : (bs s).size < 4294967281 := by rw [bs_size]; omega
  by_cases k0 : k ≠ 0 ∧ k ≠ 1 ∧ k ≠ 2 ∧ k ≠ 3 ∧ k ≠ 4 ∧ k ≠ 5
  · obtain ⟨h0, h1, h2, h3, h4, h5⟩ := k0
    have : right d (.mk k s n l) = false := by simp only [right]; rw [if_neg (by omega), if_neg (by omega), if_neg (by omega), if_neg (by omega), if_neg (by omega)]
    rw [this]
    exact rf_off k n l.length c p (bs s) d w (eq_no h0) (eq_no h1) (eq_no h2) (eq_no h3) (eq_no h4) (eq_no h5)
  obtain rfl | rfl | rfl | rfl | rfl | rfl : k = 0 ∨ k = 1 ∨ k = 2 ∨ k = 3 ∨ k = 4 ∨ k = 5 := by omega
  · by_cases h2 : n = 0
    · subst h2
      by_cases h1 : l = []
      · subst h1
        rw [show right d (.mk 0 s 0 []) = calm s by simp [right]]
        exact rf_0 c p (bs s) d w hs32 (calm s) rfl
      · rw [show right d (.mk 0 s 0 l) = false by simp [right, h1]]
        exact rf_0l l.length c p (bs s) d w (len_zero h1)
    · rw [show right d (.mk 0 s n l) = false by simp [right, h2]]
      exact rf_0n n l.length c p (bs s) d w (eq_no h2)
  · by_cases h2 : n = 0
    · subst h2
      by_cases h1 : l = []
      · subst h1
        rw [show right d (.mk 1 s 0 []) = calm s by simp [right]]
        exact rf_1 c p (bs s) d w hs32 (calm s) rfl
      · rw [show right d (.mk 1 s 0 l) = false by simp [right, h1]]
        exact rf_1l l.length c p (bs s) d w (len_zero h1)
    · rw [show right d (.mk 1 s n l) = false by simp [right, h2]]
      exact rf_1n n l.length c p (bs s) d w (eq_no h2)
  · by_cases h3 : s = []
    · subst h3
      by_cases h1 : l = []
      · subst h1
        rw [show right d (.mk 2 [] n []) = true by simp [right]]
        exact rf_2 n c p d w
      · rw [show right d (.mk 2 [] n l) = false by simp [right, h1]]
        exact rf_2l n l.length c p d w (len_zero h1)
    · rw [show right d (.mk 2 s n l) = false by simp [right, h3]]
      exact rf_2s n l.length c p (bs s) d w (bytes_ne s h3)
  · by_cases h2 : n = 0
    · subst h2
      by_cases h1 : l = []
      · subst h1
        rw [show right d (.mk 3 s 0 []) = true by simp [right]]
        exact rf_3 c p (bs s) d w
      · rw [show right d (.mk 3 s 0 l) = false by simp [right, h1]]
        exact rf_3l l.length c p (bs s) d w (len_zero h1)
    · rw [show right d (.mk 3 s n l) = false by simp [right, h2]]
      exact rf_3n n l.length c p (bs s) d w (eq_no h2)
  · by_cases h3 : s = []
    · subst h3
      by_cases h2 : n = 0
      · subst h2
        by_cases h1 : l = []
        · subst h1
          rw [show right d (.mk 4 [] 0 []) = true by simp [right]]
          exact rf_4 c p d w
        · rw [show right d (.mk 4 [] 0 l) = false by simp [right, h1]]
          exact rf_4l l.length c p d w (len_zero h1)
      · rw [show right d (.mk 4 [] n l) = false by simp [right, h2]]
        exact rf_4n n l.length c p d w (eq_no h2)
    · rw [show right d (.mk 4 s n l) = false by simp [right, h3]]
      exact rf_4s n l.length c p (bs s) d w (bytes_ne s h3)
  · by_cases h3 : s = []
    · subst h3
      by_cases h2 : n = 0
      · subst h2
        cases d with
        | zero =>
          rw [show right 0 (.mk 5 [] 0 l) = false by simp [right]]
          exact rf_5z l.length c p w
        | succ d =>
          rw [show right (d + 1) (.mk 5 [] 0 l) = rightL d l by simp [right]]
          exact rf_5 l d (by omega) (ih d rfl) c p w h hsl hll
      · rw [show right d (.mk 5 [] n l) = false by simp [right, h2]]
        exact rf_5n n l.length c p d w (eq_no h2)
    · rw [show right d (.mk 5 s n l) = false by simp [right, h3]]
      exact rf_5s n l.length c p (bs s) d w (bytes_ne s h3)

theorem fits_any (d : Nat) : d ≤ 9 → FitsAt d := by
  induction d with
  | zero => exact fun _ => fits_of 0 (by omega) (fun d h => absurd h (by omega))
  | succ d ih => exact fun hd => fits_of (d + 1) hd (fun e h => by obtain rfl : e = d := (by omega); exact ih (by omega))

set_option maxRecDepth 20000 in
set_option maxHeartbeats 400000 in
/-- resp.Right. -/
theorem right_any (r : Rep) (p : Option Addr) (c : Nat) (w : World) (h : RepIn w r p c) (hs : Short r) :
    Calls Tryd.prog 16 #[.agg (repCs r p c)] w fun e w' => e = .returned (.bool (right 4 r)) ∧ Below w.heap.size w w' := by
  have hc : ∀ W, Below w.heap.size w W → _ := fun W hb => fits_any 4 (by omega) r p c W (RepIn.below hb _ h) hs
  unfold repCs at hc ⊢
  have HC := Lib.hid hc
  generalize right 4 r = z at *
  clear hc h hs
  go_enter Tryd.func16, Tryd.ntmps16
  go_wp2_with fail
  refine (HC.out _ (bA (Below.refl _ _) _)).mono ?_
  rintro e w1 ⟨rfl, hb⟩
  go_wp2
  go_ret
  exact ⟨rfl, bT (bA (Below.refl _ _) _) hb⟩

theorem sizeFrom_sum (f : Rep → Nat) : ∀ (l : List Rep) (n : Nat), sizeFrom f n l ≤ 300 → sizeFrom f n l = n + (l.map f).sum
  | [], n, _ => by simp [sizeFrom]
  | r :: rs, n, h => by
    rw [sizeFrom] at h ⊢
    split at h
    · rename_i h1
      rw [if_pos h1, sizeFrom_sum f rs (n + f r) h]
      simp only [List.map_cons, List.sum_cons]
      omega
    · omega
theorem sum_mem (f : Rep → Nat) : ∀ (l : List Rep) (x : Rep), x ∈ l → f x ≤ (l.map f).sum
  | [], x, h => by simp at h
  | r :: rs, x, h => by
    simp only [List.map_cons, List.sum_cons]
    rcases List.mem_cons.1 h with rfl | h
    · omega
    · have := sum_mem f rs x h; omega
theorem sum_len (f : Rep → Nat) (hf : ∀ r, 1 ≤ f r) : ∀ (l : List Rep), l.length ≤ (l.map f).sum
  | [] => by simp
  | r :: rs => by
    simp only [List.map_cons, List.sum_cons, List.length_cons]
    have := hf r
    have := sum_len f hf rs
    omega

/-- A count of 300 or less: nothing in it is long. -/
theorem size_parts {d : Nat} {k : Int} {s : List UInt8} {n : Int} {l : List Rep} (h : size (d + 1) (.mk k s n l) ≤ 300) : s.length ≤ 2000 ∧ size (d + 1) (.mk k s n l) = 1 + (l.map (size d)).sum := by
  rw [size] at h ⊢
  split at h
  · omega
  · rename_i h1
    rw [if_neg h1]
    exact ⟨by omega, sizeFrom_sum (size d) l 1 h⟩
theorem short_of : ∀ (d : Nat) (r : Rep), size d r ≤ 300 → Short r
  | 0, r, h => by simp [size] at h
  | d + 1, .mk k s n l, h => by
    obtain ⟨h1, h2⟩ := size_parts h
    have h3 := sum_len (size d) (size_pos d) l
    rw [Short]
    exact ⟨h1, by omega, short_all fun x hx => short_of d x (by have := sum_mem (size d) l x hx; omega)⟩

/-- How long an encoding is. -/
theorem enc_len {w : World} : ∀ (d : Nat) (r : Rep) (p : Option Addr) (c : Nat), RepIn w r p c → size d r ≤ 300 → (enc r).length ≤ 2100 * size d r
  | 0, r, p, c, _, h => by simp [size] at h
  | d + 1, .mk k s n l, p, c, hr, h => by
    obtain ⟨h1, h2⟩ := size_parts h
    obtain ⟨_, hn, _, _, _, hl⟩ := hr.parts
    have h3 := sum_len (size d) (size_pos d) l
    have hL : (encL l).length ≤ 2100 * (l.map (size d)).sum := by
      have key : ∀ (l' : List Rep) (b o : Nat), RowIn w l' b o → (l'.map (size d)).sum ≤ 300 → (encL l').length ≤ 2100 * (l'.map (size d)).sum := by
        intro l'
        induction l' with
        | nil => intro b o _ _; simp [encL]
        | cons r rs ih =>
          intro b o hrow hs
          rw [RowIn] at hrow
          obtain ⟨⟨p, c, _, _, _, _, h4⟩, h5⟩ := hrow
          simp only [List.map_cons, List.sum_cons] at hs ⊢
          have e1 := ih b (o + 4) h5 (by omega)
          have e2 := enc_len d r p c h4 (by omega)
          simp only [encL, List.length_append]
          omega
      rcases hl with rfl | ⟨b, o, _, hrow⟩
      · simp [encL]
      · exact key l b o hrow (by omega)
    have i1 := itoa_len n hn.1 hn.2
    have i2 := itoa_len (s.length : Int) (by omega) (by omega)
    have i3 := itoa_len (l.length : Int) (by omega) (by omega)
    rw [h2]
    rw [enc]
    split
    · simp only [List.length_cons, List.length_append, List.length_nil]; omega
    split
    · simp only [List.length_cons, List.length_append, List.length_nil]; omega
    split
    · simp only [List.length_cons, List.length_append, List.length_nil]; omega
    split
    · simp only [List.length_cons, List.length_append, List.length_nil]; omega
    split
    · simp only [List.length_cons, List.length_nil]; omega
    · simp only [List.length_cons, List.length_append]; omega
end Go.Proofs.YtkcapbjmhimceaaDoor
