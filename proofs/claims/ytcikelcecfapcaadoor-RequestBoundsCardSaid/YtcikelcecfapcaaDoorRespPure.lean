/-
  Plain facts on replies and their encodings, of no program: no encoding is the beginning of another. An encoding is not empty.
-/
import Derived.Test.YtcikelcecfapcaaDoorNumPlain
namespace Go.Proofs.YtcikelcecfapcaaDoor.Rp
open Go

/-- A reply: its kind, its string, its number, its elements. -/
inductive Rep where
  | mk (k : Int) (s : List UInt8) (n : Int) (l : List Rep)

def Rep.kind : Rep → Int | .mk k _ _ _ => k
def Rep.str : Rep → List UInt8 | .mk _ s _ _ => s
def Rep.num : Rep → Int | .mk _ _ n _ => n
def Rep.kids : Rep → List Rep | .mk _ _ _ l => l

theorem kids_lt (r : Rep) (x : Rep) (h : x ∈ r.kids) : SizeOf.sizeOf x < SizeOf.sizeOf r := by
  cases r with
  | mk k s n l =>
    have := List.sizeOf_lt_of_mem (show x ∈ l from h)
    simp only [Rep.mk.sizeOf_spec]
    omega

/-- Whatever holds of a reply if it holds of its elements holds of each. -/
theorem Rep.ind {p : Rep → Prop} (h : ∀ k s n l, (∀ x ∈ l, p x) → p (.mk k s n l)) (r : Rep) : p r := by
  have : ∀ m r, SizeOf.sizeOf r < m → p r := by
    intro m
    induction m with
    | zero => intro r hr; omega
    | succ m ih =>
      intro r hr
      cases r with
      | mk k s n l => exact h k s n l (fun x hx => ih x (by have := kids_lt (.mk k s n l) x hx; omega))
  exact this _ r (Nat.lt_succ_self _)

/-- Neither CR nor LF. -/
def calm (s : List UInt8) : Bool := s.all fun c => c != 13 && c != 10

mutual
def right : Nat → Rep → Bool
  | d, .mk k s n l =>
    if k = 0 ∨ k = 1 then n == 0 && l.isEmpty && calm s
    else if k = 2 then s.isEmpty && l.isEmpty
    else if k = 3 then n == 0 && l.isEmpty
    else if k = 4 then s.isEmpty && n == 0 && l.isEmpty
    else if k = 5 then s.isEmpty && n == 0 && (match d with | 0 => false | d + 1 => rightL d l)
    else false
def rightL : Nat → List Rep → Bool
  | _, [] => true
  | d, r :: rs => right d r && rightL d rs
end

mutual
def enc : Rep → List UInt8
  | .mk k s n l =>
    if k = 0 then 43 :: (s ++ [13, 10])
    else if k = 1 then 45 :: (s ++ [13, 10])
    else if k = 2 then 58 :: (Lib.itoa n ++ [13, 10])
    else if k = 3 then 36 :: (Lib.itoa s.length ++ 13 :: 10 :: (s ++ [13, 10]))
    else if k = 4 then [36, 45, 49, 13, 10]
    else 42 :: (Lib.itoa l.length ++ 13 :: 10 :: encL l)
def encL : List Rep → List UInt8
  | [] => []
  | r :: rs => enc r ++ encL rs
end

mutual
def same : Rep → Rep → Bool
  | .mk k s n l, .mk k' s' n' l' => k == k' && s == s' && n == n' && sameL l l'
def sameL : List Rep → List Rep → Bool
  | [], [] => true
  | r :: rs, x :: xs => same r x && sameL rs xs
  | _, _ => false
end

theorem same_iff (a b : Rep) : same a b = true ↔ a = b := by
  revert b
  refine Rep.ind (p := fun a => ∀ b, same a b = true ↔ a = b) ?_ a
  intro k s n l ih b
  cases b with
  | mk k' s' n' l' =>
    have hl : ∀ (l l' : List Rep), (∀ x ∈ l, ∀ b, same x b = true ↔ x = b) → (sameL l l' = true ↔ l = l') := by
      intro l
      induction l with
      | nil => intro l' _; cases l' <;> simp [sameL]
      | cons r rs ihl =>
        intro l' h
        cases l' with
        | nil => simp [sameL]
        | cons x xs =>
          simp only [sameL, Bool.and_eq_true, List.cons.injEq]
          rw [h r (by simp) x, ihl xs (fun y hy => h y (by simp [hy]))]
    simp only [same, Bool.and_eq_true, beq_iff_eq, Rep.mk.injEq]
    rw [hl l l' ih]
    constructor
    · rintro ⟨⟨⟨a, b⟩, c⟩, d⟩; exact ⟨a, b, c, d⟩
    · rintro ⟨a, b, c, d⟩; exact ⟨⟨⟨a, b⟩, c⟩, d⟩

theorem same_eq (a b : Rep) : same a b = true → a = b := (same_iff a b).1
theorem same_ne (a b : Rep) (h : a ≠ b) : same a b = false := by
  cases hs : same a b
  · rfl
  · exact absurd (same_eq a b hs) h

theorem rightL_mem {d : Nat} : ∀ {l : List Rep}, rightL d l = true → ∀ x ∈ l, right d x = true
  | [], _, x, hx => by simp at hx
  | r :: rs, h, x, hx => by
    simp only [rightL, Bool.and_eq_true] at h
    rcases List.mem_cons.1 hx with rfl | hx
    · exact h.1
    · exact rightL_mem h.2 x hx

/-- The number that decimal digits spell. -/
def val (l : List UInt8) : Nat := l.foldl (fun a c => 10 * a + (c.toNat - 48)) 0
theorem val_snoc (l : List UInt8) (c : UInt8) : val (l ++ [c]) = 10 * val l + (c.toNat - 48) := by simp [val]
theorem val_digits (u : Nat) : val (Lib.decDigits u) = u := by
  induction u using Nat.strongRecOn with
  | _ u ih =>
    by_cases h : u < 10
    · rw [Lib.decDigits, dif_pos h]
      simp only [val, List.foldl_cons, List.foldl_nil, Num.digit_nat u h]
      omega
    · rw [Lib.decDigits, dif_neg h, val_snoc, ih (u / 10) (by omega), Num.digit_nat (u % 10) (by omega)]
      omega
theorem digits_inj {a b : Nat} (h : Lib.decDigits a = Lib.decDigits b) : a = b := by rw [← val_digits a, h, val_digits]
theorem digits_all (u : Nat) : ∀ c ∈ Lib.decDigits u, 48 ≤ c.toNat ∧ c.toNat ≤ 57 := by
  induction u using Nat.strongRecOn with
  | _ u ih =>
    intro c hc
    by_cases h : u < 10
    · rw [Lib.decDigits, dif_pos h] at hc
      obtain rfl : c = _ := List.mem_singleton.1 hc
      rw [Num.digit_nat u h]; omega
    · rw [Lib.decDigits, dif_neg h] at hc
      rcases List.mem_append.1 hc with hc | hc
      · exact ih (u / 10) (by omega) c hc
      · obtain rfl : c = _ := List.mem_singleton.1 hc
        rw [Num.digit_nat (u % 10) (by omega)]; omega

theorem itoa_nat (u : Nat) : Lib.itoa (u : Int) = Lib.decDigits u := by
  unfold Lib.itoa
  rw [if_neg (by omega)]
  rfl
theorem itoa_calm (n : Int) : ∀ c ∈ Lib.itoa n, c ≠ 13 ∧ c ≠ 10 := by
  intro c hc
  have key : ∀ c : UInt8, (48 ≤ c.toNat ∧ c.toNat ≤ 57) ∨ c = 45 → c ≠ 13 ∧ c ≠ 10 := by
    rintro c (h | rfl)
    · constructor <;> (rintro rfl; simp at h)
    · decide
  unfold Lib.itoa at hc
  split at hc
  · rcases List.mem_cons.1 hc with rfl | hc
    · exact key _ (.inr rfl)
    · exact key c (.inl (digits_all _ c hc))
  · exact key c (.inl (digits_all _ c hc))
theorem itoa_inj (a b : Int) (h : Lib.itoa a = Lib.itoa b) : a = b := by
  unfold Lib.itoa at h
  have hd : ∀ u v, 45 :: Lib.decDigits u ≠ Lib.decDigits v := by
    intro u v e
    have := digits_all v 45 (by rw [← e]; simp)
    simp at this
  split at h <;> split at h
  · have := digits_inj (List.cons.inj h).2; omega
  · exact absurd h (hd _ _)
  · exact absurd h.symm (hd _ _)
  · have := digits_inj h; omega

theorem calm_of {s : List UInt8} (h : calm s = true) : ∀ c ∈ s, c ≠ 13 ∧ c ≠ 10 := by
  intro c hc
  have := List.all_eq_true.1 h c hc
  simpa using this

/-- A line is told from what follows it. -/
theorem line_split : ∀ {x y : List UInt8} {t u : List UInt8}, (∀ c ∈ x, c ≠ 13 ∧ c ≠ 10) → (∀ c ∈ y, c ≠ 13 ∧ c ≠ 10) → x ++ 13 :: 10 :: t = y ++ 13 :: 10 :: u → x = y ∧ t = u
  | [], [], t, u, _, _, h => by simpa using h
  | [], c :: y, t, u, _, hy, h => by
    have := (List.cons.inj h).1
    exact absurd this.symm (hy c (by simp)).1
  | c :: x, [], t, u, hx, _, h => by
    have := (List.cons.inj h).1
    exact absurd this (hx c (by simp)).1
  | c :: x, d :: y, t, u, hx, hy, h => by
    obtain ⟨h1, h2⟩ := List.cons.inj h
    obtain ⟨h3, h4⟩ := line_split (fun e he => hx e (by simp [he])) (fun e he => hy e (by simp [he])) h2
    exact ⟨by rw [h1, h3], h4⟩

theorem crlf_split {x y t u : List UInt8} (hx : ∀ c ∈ x, c ≠ 13 ∧ c ≠ 10) (hy : ∀ c ∈ y, c ≠ 13 ∧ c ≠ 10) (h : (x ++ [13, 10]) ++ t = (y ++ [13, 10]) ++ u) : x = y ∧ t = u := by
  rw [List.append_assoc, List.append_assoc] at h
  exact line_split hx hy h

/-- NO ENCODING IS THE BEGINNING OF ANOTHER. -/
theorem enc_split (a : Rep) : ∀ (d e : Nat) (b : Rep) (t u : List UInt8), right d a = true → right e b = true → enc a ++ t = enc b ++ u → a = b ∧ t = u := by
  refine Rep.ind (p := fun a => ∀ (d e : Nat) (b : Rep) (t u : List UInt8), right d a = true → right e b = true → enc a ++ t = enc b ++ u → a = b ∧ t = u) ?_ a
  clear a
  intro k s n l ih d e b t u ha hb h
  cases b with
  | mk k' s' n' l' =>
    have hlist : ∀ (l l' : List Rep) (d e : Nat) (t u : List UInt8), (∀ x ∈ l, ∀ (d e : Nat) (b : Rep) (t u : List UInt8), right d x = true → right e b = true → enc x ++ t = enc b ++ u → x = b ∧ t = u) → rightL d l = true → rightL e l' = true → l.length = l'.length → encL l ++ t = encL l' ++ u → l = l' ∧ t = u := by
      intro l
      induction l with
      | nil =>
        intro l' d e t u _ _ _ hlen h
        obtain rfl : l' = [] := List.eq_nil_of_length_eq_zero hlen.symm
        exact ⟨rfl, by simpa [encL] using h⟩
      | cons r rs ihl =>
        intro l' d e t u ih h1 h2 hlen h
        cases l' with
        | nil => simp at hlen
        | cons x xs =>
          simp only [rightL, Bool.and_eq_true] at h1 h2
          simp only [encL, List.append_assoc] at h
          obtain ⟨e1, h3⟩ := ih r (by simp) d e x _ _ h1.1 h2.1 h
          obtain ⟨e2, h4⟩ := ihl xs d e t u (fun y hy => ih y (by simp [hy])) h1.2 h2.2 (by simpa using hlen) h3
          exact ⟨by rw [e1, e2], h4⟩
    simp only [right] at ha hb
    by_cases k0 : k = 0
    · subst k0
      simp at ha
      obtain ⟨⟨rfl, rfl⟩, hc⟩ := ha
      by_cases k0' : k' = 0
      · subst k0'
        simp at hb
        obtain ⟨⟨rfl, rfl⟩, hc'⟩ := hb
        simp only [enc, if_true, List.cons_append] at h
        obtain ⟨rfl, rfl⟩ := crlf_split (calm_of hc) (calm_of hc') (List.cons.inj h).2
        exact ⟨rfl, rfl⟩
      · exfalso
        simp only [enc, if_true, if_neg k0'] at h
        (repeat' split at h) <;> simp at h
    · by_cases k1 : k = 1
      · subst k1
        simp at ha
        obtain ⟨⟨rfl, rfl⟩, hc⟩ := ha
        by_cases k1' : k' = 1
        · subst k1'
          simp at hb
          obtain ⟨⟨rfl, rfl⟩, hc'⟩ := hb
          simp only [enc, if_true] at h
          obtain ⟨rfl, rfl⟩ := crlf_split (calm_of hc) (calm_of hc') (List.cons.inj h).2
          exact ⟨rfl, rfl⟩
        · exfalso
          simp only [enc, if_true, if_neg k0, if_neg k1'] at h
          (repeat' split at h) <;> simp at h
      · by_cases k2 : k = 2
        · subst k2
          simp at ha
          obtain ⟨rfl, rfl⟩ := ha
          by_cases k2' : k' = 2
          · subst k2'
            simp at hb
            obtain ⟨rfl, rfl⟩ := hb
            simp [enc] at h
            obtain ⟨hn, rfl⟩ := line_split (itoa_calm n) (itoa_calm n') h
            obtain rfl := itoa_inj _ _ hn
            exact ⟨rfl, rfl⟩
          · exfalso
            simp only [enc, if_true, if_neg k0, if_neg k1, if_neg k2'] at h
            (repeat' split at h) <;> simp at h
        · by_cases k3 : k = 3
          · subst k3
            simp at ha
            obtain ⟨rfl, rfl⟩ := ha
            by_cases k3' : k' = 3
            · subst k3'
              simp at hb
              obtain ⟨rfl, rfl⟩ := hb
              simp [enc] at h
              obtain ⟨hn, h⟩ := line_split (itoa_calm _) (itoa_calm _) h
              have hlen := itoa_inj _ _ hn
              obtain ⟨rfl, h⟩ := List.append_inj h (by omega)
              exact ⟨rfl, by simpa using h⟩
            · by_cases k4' : k' = 4
              · exfalso
                subst k4'
                simp [enc] at h
                have h2 : Lib.itoa (s.length : Int) ++ 13 :: 10 :: (s ++ 13 :: 10 :: t) = [45, 49] ++ 13 :: 10 :: u := by simpa using h
                obtain ⟨hn, _⟩ := line_split (itoa_calm _) (by decide) h2
                rw [itoa_nat] at hn
                have := digits_all s.length 45 (by rw [hn]; simp)
                simp at this
              · exfalso
                simp only [enc, if_true, if_neg k0, if_neg k1, if_neg k2, if_neg k3', if_neg k4'] at h
                (repeat' split at h) <;> simp at h
          · by_cases k4 : k = 4
            · subst k4
              simp at ha
              obtain ⟨⟨rfl, rfl⟩, rfl⟩ := ha
              by_cases k4' : k' = 4
              · subst k4'
                simp at hb
                obtain ⟨⟨rfl, rfl⟩, rfl⟩ := hb
                simp [enc] at h
                exact ⟨rfl, h⟩
              · by_cases k3' : k' = 3
                · exfalso
                  subst k3'
                  simp [enc] at h
                  have h2 : [45, 49] ++ 13 :: 10 :: t = Lib.itoa (s'.length : Int) ++ 13 :: 10 :: (s' ++ 13 :: 10 :: u) := by simpa using h
                  obtain ⟨hn, _⟩ := line_split (by decide) (itoa_calm _) h2
                  rw [itoa_nat] at hn
                  have := digits_all s'.length 45 (by rw [← hn]; simp)
                  simp at this
                · exfalso
                  simp only [enc, if_true, if_neg k0, if_neg k1, if_neg k2, if_neg k3, if_neg k3', if_neg k4'] at h
                  (repeat' split at h) <;> simp at h
            · by_cases k5 : k = 5
              · subst k5
                simp at ha
                obtain ⟨⟨rfl, rfl⟩, hr⟩ := ha
                by_cases k5' : k' = 5
                · subst k5'
                  simp at hb
                  obtain ⟨⟨rfl, rfl⟩, hr'⟩ := hb
                  cases d with
                  | zero => simp at hr
                  | succ d =>
                    cases e with
                    | zero => simp at hr'
                    | succ e =>
                      simp [enc] at h
                      obtain ⟨hn, h⟩ := line_split (itoa_calm _) (itoa_calm _) h
                      have hlen := itoa_inj _ _ hn
                      obtain ⟨e1, h3⟩ := hlist l l' d e t u ih hr hr' (by omega) h
                      exact ⟨by rw [e1], h3⟩
                · exfalso
                  by_cases hh : k' = 0 ∨ k' = 1 ∨ k' = 2 ∨ k' = 3 ∨ k' = 4
                  · simp only [enc, if_neg k0, if_neg k1, if_neg k2, if_neg k3, if_neg k4] at h
                    rcases hh with rfl | rfl | rfl | rfl | rfl <;> simp at h
                  · simp only [not_or] at hh
                    simp [hh.1, hh.2.1, hh.2.2.1, hh.2.2.2.1, hh.2.2.2.2, k5'] at hb
              · simp [k0, k1, k2, k3, k4, k5] at ha

/-- Right replies: the encodings agree as far as both go just where the replies are the same. -/
theorem enc_apart {d e : Nat} {a b : Rep} (ha : right d a = true) (hb : right e b = true) (n : Nat) (hn : n = min (enc a).length (enc b).length) : (decide ((enc a).take n = (enc b).take n)) = same a b := by
  cases hs : same a b
  · apply decide_eq_false
    intro h
    have hne : a ≠ b := fun e => by rw [(same_iff a b).2 e] at hs; cases hs
    apply hne
    rcases Nat.le_total (enc a).length (enc b).length with hl | hl
    · rw [Nat.min_eq_left hl] at hn
      subst hn
      rw [List.take_length] at h
      exact (enc_split a d e b ((enc b).drop (enc a).length) [] ha hb (by
        have := List.take_append_drop (enc a).length (enc b)
        rw [← h] at this
        rw [this, List.append_nil])).1
    · rw [Nat.min_eq_right hl] at hn
      subst hn
      rw [List.take_length] at h
      exact (enc_split a d e b [] ((enc a).drop (enc b).length) ha hb (by
        have := List.take_append_drop (enc b).length (enc a)
        rw [h] at this
        rw [this, List.append_nil])).1
  · rw [same_eq a b hs] at hn ⊢
    exact decide_eq_true rfl

/-- How many replies there are in one (the reference's count). -/
def sizeFrom (f : Rep → Nat) : Nat → List Rep → Nat
  | n, [] => n
  | n, r :: rs => if n < 100000 then sizeFrom f (n + f r) rs else n
def size : Nat → Rep → Nat
  | 0, _ => 100000
  | d + 1, .mk _ s _ l => if 2000 < s.length then 100000 else sizeFrom (size d) 1 l

theorem sizeFrom_le (f : Rep → Nat) (M : Nat) (hf : ∀ r, f r ≤ M) : ∀ (l : List Rep) (n : Nat), n ≤ 100000 + M → sizeFrom f n l ≤ 100000 + M
  | [], n, h => by simpa [sizeFrom] using h
  | r :: rs, n, h => by
    rw [sizeFrom]
    split
    · exact sizeFrom_le f M hf rs _ (by have := hf r; omega)
    · exact h
theorem size_le : ∀ (d : Nat) (r : Rep), size d r ≤ 100000 * (d + 1)
  | 0, r => by simp [size]
  | d + 1, .mk k s n l => by
    rw [size]
    split
    · omega
    · have := sizeFrom_le (size d) (100000 * (d + 1)) (size_le d) l 1 (by rw [Nat.mul_succ]; exact Nat.le_trans (by decide) (Nat.le_add_right _ _))
      rw [Nat.mul_succ, Nat.add_comm]
      exact this
theorem sizeFrom_ge (f : Rep → Nat) : ∀ (l : List Rep) (n : Nat), n ≤ sizeFrom f n l
  | [], n => by simp [sizeFrom]
  | r :: rs, n => by
    rw [sizeFrom]
    split
    · exact Nat.le_trans (Nat.le_add_right _ _) (sizeFrom_ge f rs _)
    · exact Nat.le_refl _
theorem size_pos : ∀ (d : Nat) (r : Rep), 1 ≤ size d r
  | 0, r => by simp [size]
  | d + 1, .mk k s n l => by
    rw [size]
    split
    · omega
    · exact sizeFrom_ge (size d) l 1

/-- A reply of few parts has few, short elements, and so is its encoding: by the count. -/
theorem digits_len (u : Nat) (h : u < 18446744073709551616) : (Lib.decDigits u).length ≤ 20 := by rw [Lib.decDigits_length]; exact Lib.nDigits_le20 u h
theorem itoa_len (n : Int) (h0 : -9223372036854775808 ≤ n) (h1 : n ≤ 9223372036854775807) : (Lib.itoa n).length ≤ 21 := by
  unfold Lib.itoa
  split
  · have := digits_len n.natAbs (by omega)
    simp; omega
  · have := digits_len n.toNat (by omega)
    omega

end Go.Proofs.YtcikelcecfapcaaDoor.Rp

namespace Go.Proofs.YtcikelcecfapcaaDoor.Rp
open Go

theorem enc_pos : ∀ a : Rep, 0 < (enc a).length
  | .mk k s n l => by
    rw [enc]
    by_cases h0 : k = 0
    · simp [h0]
    by_cases h1 : k = 1
    · simp [h1]
    by_cases h2 : k = 2
    · simp [h2]
    by_cases h3 : k = 3
    · simp [h3]
    by_cases h4 : k = 4
    · simp [h4]
    simp [h0, h1, h2, h3, h4]
end Go.Proofs.YtcikelcecfapcaaDoor.Rp
