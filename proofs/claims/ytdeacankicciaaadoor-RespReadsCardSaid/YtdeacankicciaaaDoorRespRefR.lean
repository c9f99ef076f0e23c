/-
  The reference's way of reading, as plain mathematics: the same replies. (It looks for the first CR LF, and looks at what stands in the line behind.)
-/
import Derived.Test.YtdeacankicciaaaDoorRespRefW
namespace Go.Proofs.YtdeacankicciaaaDoor
open Go.RowKit Rp

/-- The bytes before the first CR LF, and those behind it. -/
def lineR : List UInt8 → Option (List UInt8 × List UInt8)
  | [] => none
  | [_] => none
  | x :: y :: t => if x = 13 ∧ y = 10 then some ([], t) else match lineR (y :: t) with | none => none | some (u, r) => some (x :: u, r)

theorem lineR_calm : ∀ (u r : List UInt8), (∀ c ∈ u, c ≠ 13 ∧ c ≠ 10) → lineR (u ++ 13 :: 10 :: r) = some (u, r)
  | [], r, _ => by simp [lineR]
  | x :: u, r, h => by
    have ih := lineR_calm u r (fun c hc => h c (List.mem_cons_of_mem _ hc))
    obtain ⟨h1, _⟩ := h x List.mem_cons_self
    cases u with
    | nil =>
      show lineR (x :: 13 :: 10 :: r) = _
      rw [lineR, if_neg (fun e => h1 e.1)]
      simp only [List.nil_append] at ih
      rw [ih]
    | cons y u =>
      show lineR (x :: y :: (u ++ 13 :: 10 :: r)) = _
      rw [lineR, if_neg (fun e => h1 e.1)]
      rw [show y :: (u ++ 13 :: 10 :: r) = (y :: u) ++ 13 :: 10 :: r from rfl, ih]

theorem lineR_split : ∀ (l u r : List UInt8), lineR l = some (u, r) → l = u ++ 13 :: 10 :: r
  | [], u, r, h => by simp [lineR] at h
  | [x], u, r, h => by simp [lineR] at h
  | x :: y :: t, u, r, h => by
    rw [lineR] at h
    by_cases hx : x = 13 ∧ y = 10
    · rw [if_pos hx] at h
      simp only [Option.some.injEq, Prod.mk.injEq] at h
      obtain ⟨rfl, rfl⟩ := h
      obtain ⟨rfl, rfl⟩ := hx
      rfl
    · rw [if_neg hx] at h
      cases hr : lineR (y :: t) with
      | none => rw [hr] at h; cases h
      | some z =>
        obtain ⟨u', r'⟩ := z
        rw [hr] at h
        simp only [Option.some.injEq, Prod.mk.injEq] at h
        obtain ⟨rfl, rfl⟩ := h
        rw [lineR_split (y :: t) u' r' hr]
        rfl

theorem cut_calm {l t r : List UInt8} (h : cut l = some (t, r)) : (∀ c ∈ t, c ≠ 13 ∧ c ≠ 10) ∧ l = t ++ 13 :: 10 :: r := by
  have hF := brk_first l
  unfold cut at h
  by_cases hc : crlf (l.drop (brk l)) = true
  · rw [if_pos hc] at h
    simp only [Option.some.injEq, Prod.mk.injEq] at h
    obtain ⟨rfl, rfl⟩ := h
    refine ⟨fun c hm => ?_, ?_⟩
    · obtain ⟨i, hi, rfl⟩ := List.getElem_of_mem hm
      rw [List.length_take] at hi
      rw [List.getElem_take]
      exact hF.pre i (by omega) (by omega)
    · have h2 : l.drop (brk l) = 13 :: 10 :: (l.drop (brk l)).drop 2 := by
        match hl : l.drop (brk l), hc with
        | [], hc => cases hc
        | [a], hc => simp [crlf] at hc
        | a :: b :: s, hc =>
          have h3 : a = 13 ∧ b = 10 := by
            simp [crlf] at hc
            exact ⟨hc.1.symm, hc.2.symm⟩
          rw [h3.1, h3.2]; rfl
      rw [List.drop_drop] at h2
      conv => lhs; rw [← List.take_append_drop (brk l) l, h2]
  · rw [if_neg hc] at h; cases h

/-- What the reference does with a line. -/
def kindR (ar : List UInt8 → List UInt8 → Option (Rep × List UInt8)) (x : UInt8) (t rest : List UInt8) : Option (Rep × List UInt8) :=
  if x = 43 then (if calm t then some (.mk 0 t 0 [], rest) else none)
  else if x = 45 then (if calm t then some (.mk 1 t 0 [], rest) else none)
  else if x = 58 then (match parseL t with | none => none | some n => some (.mk 2 [] n [], rest))
  else if x = 36 then bulkOf t rest
  else if x = 42 then ar t rest
  else none
def readR (ar : List UInt8 → List UInt8 → Option (Rep × List UInt8)) (l : List UInt8) : Option (Rep × List UInt8) :=
  match lineR l with | none => none | some ([], _) => none | some (x :: t, rest) => kindR ar x t rest

theorem calm_iff {s : List UInt8} : calm s = true ↔ ∀ c ∈ s, c ≠ 13 ∧ c ≠ 10 := by
  unfold calm
  rw [List.all_eq_true]
  simp
theorem parse_wild {t : List UInt8} (h : calm t = false) : parseL t = none := by
  cases hp : parseL t with
  | none => rfl
  | some n =>
    have := (parseL_some hp).2
    rw [itoa_bs] at this
    have := bs_inj this
    rw [← this, calm_iff.2 (itoa_calm n)] at h
    cases h

theorem readR_eq (ar : List UInt8 → List UInt8 → Option (Rep × List UInt8)) (ha : ∀ t r, parseL t = none → ar t r = none) (l : List UInt8) : readR ar l = takeOf ar l := by
  unfold readR takeOf
  cases hc : cut l with
  | some z =>
    obtain ⟨t, r⟩ := z
    obtain ⟨h1, h2⟩ := cut_calm hc
    have hl : lineR l = some (t, r) := by rw [h2]; exact lineR_calm t r h1
    rw [hl]
    cases t with
    | nil => rfl
    | cons x t =>
      have hct : calm t = true := calm_iff.2 fun c hc => h1 c (List.mem_cons_of_mem _ hc)
      simp only [kindR, kindOf, hct, if_true]
      cases parseL t <;> rfl
  | none =>
    cases hl : lineR l with
    | none => rfl
    | some z =>
      obtain ⟨u, r⟩ := z
      cases u with
      | nil => rfl
      | cons x t =>
        have hsp := lineR_split l _ r hl
        by_cases hx : x ≠ 13 ∧ x ≠ 10
        · have hct : calm t = false := by
            cases h : calm t with
            | false => rfl
            | true =>
              exfalso
              have hall : ∀ c ∈ x :: t, c ≠ 13 ∧ c ≠ 10 := fun c hc => by
                rcases List.mem_cons.1 hc with rfl | hc
                · exact hx
                · exact calm_iff.1 h c hc
              have := cut_line (x :: t) r hall
              rw [← hsp, hc] at this
              cases this
          have hp := parse_wild hct
          have hb : bulkOf t r = none := by
            rw [bulkOf, if_neg (fun e => by rw [e] at hct; exact absurd hct (by decide)), hp]
          simp only [kindR, hct, hp, hb, ha t r hp]
          repeat' split
          all_goals first | rfl | contradiction
        · have h13 : x = 13 ∨ x = 10 := by
            by_cases h1 : x = 13
            · exact .inl h1
            · by_cases h2 : x = 10
              · exact .inr h2
              · exact absurd ⟨h1, h2⟩ hx
          rcases h13 with rfl | rfl <;> rfl

/-- So many elements need so many bytes. -/
theorem many_need (f : List UInt8 → Option (Rep × List UInt8)) (hf : ∀ b r s, f b = some (r, s) → s.length < b.length) : ∀ (n : Nat) (b : List UInt8) (xs : List Rep) (s : List UInt8), many f n b = some (xs, s) → n ≤ b.length
  | 0, _, _, _, _ => Nat.zero_le _
  | n + 1, b, xs, s, h => by
    rw [many] at h
    cases h1 : f b with
    | none => rw [h1] at h; cases h
    | some y =>
      obtain ⟨x, b1⟩ := y
      rw [h1] at h
      simp only at h
      cases h2 : many f n b1 with
      | none => rw [h2] at h; cases h
      | some z =>
        obtain ⟨zs, b2⟩ := z
        have h3 := many_need f hf n b1 zs b2 h2
        have h4 := hf _ _ _ h1
        omega
theorem array_need (d : Nat) (t r : List UInt8) (n : Int) (hp : parseL t = some n) (hn : (r.length : Int) < n) : arrayOf (rd d) t r = none := by
  rw [arrayOf, hp]
  simp only
  rw [if_pos (by omega)]
  cases hm : many (rd d) n.toNat r with
  | none => rfl
  | some y =>
    obtain ⟨xs, s⟩ := y
    have := many_need _ (rd_len d) _ _ _ _ hm
    omega

/-- The reference's reading, by depth. -/
theorem rd_ref (d : Nat) (l : List UInt8) : rd d l = readR (arD d) l := by
  rw [rd_as]
  refine (readR_eq _ (fun t r hp => ?_) l).symm
  cases d with
  | zero => rfl
  | succ d =>
    show arrayOf (rd d) t r = none
    rw [arrayOf, hp]
end Go.Proofs.YtdeacankicciaaaDoor
