/-
  Plain mathematics for package glob: patterns as lists of bytes, a part that matches one byte as a set of bytes. Of no program.
-/
namespace Go.Proofs.Glob

abbrev CSet := UInt8 → Bool

def single (b : UInt8) : CSet := fun c => c == b
def anyByte : CSet := fun _ => true
def none_ : CSet := fun _ => false
def within (x y : UInt8) : CSet := fun c => decide (min x.toNat y.toNat ≤ c.toNat) && decide (c.toNat ≤ max x.toNat y.toNat)
def union (P Q : CSet) : CSet := fun c => P c || Q c
def others (P : CSet) : CSet := fun c => !P c

def special (b : UInt8) : Bool := b == 42 || b == 63 || b == 91 || b == 92

def plain (l : List UInt8) : Bool := l.all fun b => !special b

def quote1 (b : UInt8) : List UInt8 := if special b then [92, b] else [b]

def quote (l : List UInt8) : List UInt8 := l.flatMap quote1

/-- the first byte, or the one behind it if the first is a backslash that is not the last byte; and what follows -/
def unq (l : List UInt8) : UInt8 × List UInt8 :=
  match l with
  | [] => (0, [])
  | [c] => (c, [])
  | c :: d :: r => if c == 92 then (d, r) else (c, d :: r)

theorem unq_len (l : List UInt8) (h : l ≠ []) : (unq l).2.length < l.length := by
  match l with
  | [] => exact absurd rfl h
  | [c] => simp [unq]
  | c :: d :: r =>
    unfold unq
    simp only
    split
    · simp only [List.length_cons]; omega
    · simp

/-- the index of the closing bracket -/
def endAt : Nat → Nat → List UInt8 → Option Nat
  | 0, _, _ => none
  | _ + 1, _, [] => none
  | n + 1, i, c :: r => if c == 92 then endAt n (i + 2) r.tail else if c == 93 && decide (0 < i) then some i else endAt n (i + 1) r

def ending (l : List UInt8) : Option Nat := endAt (l.length + 1) 0 l

/-- one step of 'listed': the ends of the first range, and what follows it -/
def range1 (l : List UInt8) : UInt8 × UInt8 × List UInt8 :=
  match (unq l).2 with
  | a :: b :: r => if a == 45 then ((unq l).1, (unq (b :: r)).1, (unq (b :: r)).2) else ((unq l).1, (unq l).1, a :: b :: r)
  | r => ((unq l).1, (unq l).1, r)

theorem range1_len (l : List UInt8) (h : l ≠ []) : (range1 l).2.2.length < l.length := by
  have h1 := unq_len l h
  unfold range1
  split
  · rename_i a b r e
    rw [e] at h1
    split
    · have := unq_len (b :: r) (by simp)
      simp only [List.length_cons] at *
      omega
    · exact h1
  · exact h1

def listedN : Nat → List UInt8 → CSet
  | 0, _ => none_
  | _ + 1, [] => none_
  | n + 1, c :: r => union (within (range1 (c :: r)).1 (range1 (c :: r)).2.1) (listedN n (range1 (c :: r)).2.2)

theorem listedN_enough (n m : Nat) (l : List UInt8) (hn : l.length ≤ n) (hm : l.length ≤ m) : listedN n l = listedN m l := by
  induction n generalizing m l with
  | zero =>
    have : l = [] := List.eq_nil_of_length_eq_zero (by omega)
    subst this
    cases m <;> rfl
  | succ n ih =>
    cases l with
    | nil => cases m <;> rfl
    | cons c r =>
      cases m with
      | zero => simp at hm
      | succ m =>
        have hl := range1_len (c :: r) (by simp)
        simp only [List.length_cons] at hn hm hl
        unfold listedN
        rw [ih m _ (by omega) (by omega)]

def listed (l : List UInt8) : CSet := listedN l.length l

theorem listed_step (l : List UInt8) (h : l ≠ []) : listed l = union (within (range1 l).1 (range1 l).2.1) (listed (range1 l).2.2) := by
  cases l with
  | nil => exact absurd rfl h
  | cons c r =>
    have hl := range1_len (c :: r) (by simp)
    simp only [List.length_cons] at hl
    unfold listed
    show listedN (r.length + 1) (c :: r) = _
    conv => lhs; unfold listedN
    rw [listedN_enough r.length _ _ (by omega) (Nat.le_refl _)]

theorem listed_nil : listed [] = none_ := rfl

/-- what follows an opening bracket: the class, and what follows it -/
def bracket (l : List UInt8) : Option (CSet × List UInt8) :=
  let not := l.head? == some 94
  let body := if not then l.tail else l
  match ending body with
  | none => none
  | some e => some (if not then others (listed (body.take e)) else listed (body.take e), body.drop (e + 1))

/-- the first part of what is left of a pattern, no star: its set, what follows, and whether an opening bracket without end has been met -/
def next (l : List UInt8) (endless : Bool) : CSet × List UInt8 × Bool :=
  match l with
  | [] => (none_, [], endless)
  | c :: r =>
    if c == 63 then (anyByte, r, endless)
    else if c == 91 && !endless then
      match bracket r with
      | some (P, r') => (P, r', endless)
      | none => (single (unq (c :: r)).1, (unq (c :: r)).2, true)
    else (single (unq (c :: r)).1, (unq (c :: r)).2, endless)

theorem endAt_lt (n i : Nat) (l : List UInt8) (e : Nat) (h : endAt n i l = some e) : i ≤ e ∧ e < i + l.length := by
  induction n generalizing i l with
  | zero => simp [endAt] at h
  | succ n ih =>
    cases l with
    | nil => simp [endAt] at h
    | cons c r =>
      unfold endAt at h
      split at h
      · have := ih (i + 2) r.tail h
        simp only [List.length_tail, List.length_cons] at *
        omega
      · split at h
        · simp only [Option.some.injEq] at h
          subst h
          simp
        · have := ih (i + 1) r h
          simp only [List.length_cons] at *
          omega

theorem endAt_enough (n m i : Nat) (l : List UInt8) (hn : l.length < n) (hm : l.length < m) : endAt n i l = endAt m i l := by
  induction n generalizing m i l with
  | zero => omega
  | succ n ih =>
    cases m with
    | zero => omega
    | succ m =>
      cases l with
      | nil => rfl
      | cons c r =>
        simp only [List.length_cons] at hn hm
        have ht : r.tail.length ≤ r.length := by simp
        unfold endAt
        rw [ih m (i + 2) r.tail (by omega) (by omega), ih m (i + 1) r (by omega) (by omega)]

/-- 'ending' at the index i, l what is there from i on -/
def endFrom (i : Nat) (l : List UInt8) : Option Nat := endAt (l.length + 1) i l

theorem endFrom_nil (i : Nat) : endFrom i [] = none := rfl
theorem endFrom_slash (i : Nat) (c : UInt8) (r : List UInt8) (h : (c == 92) = true) : endFrom i (c :: r) = endFrom (i + 2) r.tail := by
  unfold endFrom
  conv => lhs; unfold endAt
  rw [if_pos h]
  exact endAt_enough _ _ _ _ (by simp only [List.length_cons, List.length_tail]; omega) (by omega)
theorem endFrom_close (i : Nat) (c : UInt8) (r : List UInt8) (h : (c == 92) = false) (h2 : (c == 93) = true) (hi : 0 < i) : endFrom i (c :: r) = some i := by
  unfold endFrom
  conv => lhs; unfold endAt
  rw [h, h2]
  simp [hi]
theorem endFrom_other (i : Nat) (c : UInt8) (r : List UInt8) (h : (c == 92) = false) (h2 : (c == 93) = false ∨ i = 0) : endFrom i (c :: r) = endFrom (i + 1) r := by
  unfold endFrom
  conv => lhs; unfold endAt
  have : (c == 93 && decide (0 < i)) = false := by rcases h2 with h2 | h2 <;> simp [h2]
  rw [h, this]
  simp only [Bool.false_eq_true, if_false]
  rfl

theorem ending_lt (l : List UInt8) (e : Nat) (h : ending l = some e) : e < l.length := by
  have := endAt_lt _ _ _ _ h
  omega

theorem bracket_len (l : List UInt8) (P : CSet) (r : List UInt8) (h : bracket l = some (P, r)) : r.length < l.length := by
  unfold bracket at h
  simp only at h
  split at h
  · cases h
  · rename_i e he
    have := ending_lt _ _ he
    simp only [Option.some.injEq, Prod.mk.injEq] at h
    obtain ⟨_, h2⟩ := h
    rw [← h2]
    split at this
    · simp only [List.length_drop, List.length_tail, *, if_true] at *
      omega
    · simp only [List.length_drop, *] at *
      simp at *
      omega

theorem next_len (l : List UInt8) (b : Bool) (h : l ≠ []) : (next l b).2.1.length < l.length := by
  cases l with
  | nil => exact absurd rfl h
  | cons c r =>
    have hu := unq_len (c :: r) (by simp)
    unfold next
    simp only
    split
    · simp
    · split
      · cases hb : bracket r with
        | none => exact hu
        | some q =>
          obtain ⟨P, r'⟩ := q
          have := bracket_len _ _ _ hb
          simp only [List.length_cons]
          omega
      · exact hu

/-- the runs of what is left of a pattern: 'cur' is the run under way -/
def splitN : Nat → List UInt8 → Bool → List CSet → List (List CSet)
  | 0, _, _, cur => [cur]
  | _ + 1, [], _, cur => [cur]
  | n + 1, c :: r, b, cur => if c == 42 then cur :: splitN n r b [] else splitN n (next (c :: r) b).2.1 (next (c :: r) b).2.2 (cur ++ [(next (c :: r) b).1])

theorem splitN_enough (n m : Nat) (l : List UInt8) (b : Bool) (cur : List CSet) (hn : l.length ≤ n) (hm : l.length ≤ m) : splitN n l b cur = splitN m l b cur := by
  induction n generalizing m l b cur with
  | zero =>
    have : l = [] := List.eq_nil_of_length_eq_zero (by omega)
    subst this
    cases m <;> rfl
  | succ n ih =>
    cases l with
    | nil => cases m <;> rfl
    | cons c r =>
      cases m with
      | zero => simp at hm
      | succ m =>
        have hl := next_len (c :: r) b (by simp)
        simp only [List.length_cons] at hn hm hl
        unfold splitN
        rw [ih m r b [] (by omega) (by omega), ih m _ _ _ (by omega) (by omega)]

def splitFrom (l : List UInt8) (b : Bool) (cur : List CSet) : List (List CSet) := splitN l.length l b cur

theorem splitFrom_nil (b : Bool) (cur : List CSet) : splitFrom [] b cur = [cur] := rfl

theorem splitFrom_star (r : List UInt8) (b : Bool) (cur : List CSet) : splitFrom (42 :: r) b cur = cur :: splitFrom r b [] := by
  unfold splitFrom
  show splitN (r.length + 1) _ _ _ = _
  conv => lhs; unfold splitN
  simp

theorem splitFrom_next (l : List UInt8) (b : Bool) (cur : List CSet) (h : l ≠ []) (h2 : l.head? ≠ some 42) :
    splitFrom l b cur = splitFrom (next l b).2.1 (next l b).2.2 (cur ++ [(next l b).1]) := by
  cases l with
  | nil => exact absurd rfl h
  | cons c r =>
    have hl := next_len (c :: r) b (by simp)
    simp only [List.length_cons] at hl
    have hc : (c == 42) = false := by simpa using h2
    unfold splitFrom
    show splitN (r.length + 1) _ _ _ = _
    conv => lhs; unfold splitN
    rw [hc]
    simp only [Bool.false_eq_true, if_false]
    exact splitN_enough _ _ _ _ _ (by omega) (Nat.le_refl _)

def split (l : List UInt8) : List (List CSet) := splitFrom l false []

theorem splitFrom_ne (l : List UInt8) (b : Bool) (cur : List CSet) : splitFrom l b cur ≠ [] := by
  have : ∀ n l b cur, splitN n l b cur ≠ [] := by
    intro n
    induction n with
    | zero => intro l b cur; simp [splitN]
    | succ n ih =>
      intro l b cur
      cases l with
      | nil => simp [splitN]
      | cons c r =>
        unfold splitN
        split
        · simp
        · exact ih _ _ _
  exact this _ _ _ _

/-- whether a run matches the first bytes -/
def begins : List UInt8 → List CSet → Bool
  | _, [] => true
  | [], _ :: _ => true
  | c :: s, P :: r => P c && begins s r

def findAt (s : List UInt8) (run : List CSet) : Option Nat :=
  (List.range (s.length + 1 - run.length)).find? fun k => begins (s.drop k) run

def middle : List UInt8 → List (List CSet) → Bool
  | _, [] => true
  | s, r :: rs => match findAt s r with
    | none => false
    | some k => middle (s.drop (k + r.length)) rs

/-- whether the runs, with a star between each two, match -/
def matchRuns (runs : List (List CSet)) (s : List UInt8) : Bool :=
  match runs with
  | [] => false
  | [r] => s.length == r.length && begins s r
  | first :: x :: xs =>
    let last := (x :: xs).getLast (by simp)
    if s.length < first.length + last.length then false
    else if begins s first then
      if begins (s.drop (s.length - last.length)) last then middle ((s.drop first.length).take (s.length - last.length - first.length)) (x :: xs).dropLast
      else false
    else false

def gmatch (p s : List UInt8) : Bool := matchRuns (split p) s

-- the examples
theorem awake1 : gmatch [104, 91, 97, 45, 99, 93, 42, 111] [104, 98, 101, 108, 108, 111] = true := by decide
theorem awake2 : gmatch [104, 91, 94, 97, 93, 111] [104, 97, 111] = false := by decide
theorem awake3 : gmatch [92, 42] [42] = true := by decide
theorem awake4 : gmatch [91] [91] = true := by decide

-- quoted texts

theorem quote_nil : quote [] = [] := rfl
theorem quote_cons (b : UInt8) (l : List UInt8) : quote (b :: l) = quote1 b ++ quote l := by simp [quote]

theorem special_of_star : special 42 = true := rfl

theorem next_quoted (b : UInt8) (r : List UInt8) (e : Bool) : next (quote1 b ++ r) e = (single b, r, e) := by
  unfold quote1
  cases h : special b with
  | true =>
    simp only [if_true, List.cons_append, List.nil_append]
    simp [next, unq]
  | false =>
    simp only [Bool.false_eq_true, if_false, List.cons_append, List.nil_append]
    simp only [special, Bool.or_eq_false_iff, beq_eq_false_iff_ne, ne_eq] at h
    obtain ⟨⟨⟨h1, h2⟩, h3⟩, h4⟩ := h
    have hu : unq (b :: r) = (b, r) := by
      cases r with
      | nil => rfl
      | cons d r => simp [unq, h4]
    simp [next, h2, h3, hu]

theorem head_quoted (b : UInt8) (r : List UInt8) : quote1 b ++ r ≠ [] ∧ (quote1 b ++ r).head? ≠ some 42 := by
  unfold quote1
  cases h : special b with
  | true => simp
  | false =>
    simp only [Bool.false_eq_true, if_false, List.cons_append, List.nil_append]
    refine ⟨by simp, ?_⟩
    simp only [special, Bool.or_eq_false_iff, beq_eq_false_iff_ne, ne_eq] at h
    simpa using h.1.1.1

theorem splitFrom_quoted (l r : List UInt8) (e : Bool) (cur : List CSet) : splitFrom (quote l ++ r) e cur = splitFrom r e (cur ++ l.map single) := by
  induction l generalizing cur with
  | nil => simp [quote_nil]
  | cons b l ih =>
    rw [quote_cons, List.append_assoc, splitFrom_next _ _ _ (head_quoted b _).1 (head_quoted b _).2, next_quoted]
    rw [ih]
    simp

theorem quote_plain (l : List UInt8) (h : plain l = true) : quote l = l := by
  induction l with
  | nil => rfl
  | cons b l ih =>
    simp only [plain, List.all_cons, Bool.and_eq_true, Bool.not_eq_true'] at h
    rw [quote_cons, ih (by simpa [plain] using h.2)]
    simp [quote1, h.1]

theorem begins_singles (s l : List UInt8) (h : l.length ≤ s.length) : begins s (l.map single) = (s.take l.length == l) := by
  induction l generalizing s with
  | nil => cases s <;> simp [begins]
  | cons b l ih =>
    cases s with
    | nil => simp at h
    | cons c s =>
      simp only [List.length_cons, Nat.add_le_add_iff_right] at h
      simp only [List.map_cons, begins, List.length_cons, List.take_succ_cons, ih s h, single]
      rfl

theorem match_quoted (l t : List UInt8) : gmatch (quote l) t = (l == t) := by
  unfold gmatch split
  have h := splitFrom_quoted l [] false []
  rw [List.append_nil] at h
  rw [h, splitFrom_nil]
  simp only [matchRuns, List.nil_append, List.length_map]
  by_cases e : t.length = l.length
  · rw [begins_singles t l (by omega), ← e, List.take_length]
    simp
    rw [Bool.eq_iff_iff]
    simp
    exact eq_comm
  · have : (t.length == l.length) = false := by simpa using e
    rw [this, Bool.false_and]
    symm
    simp
    intro h
    exact e (by rw [h])

-- stars

theorem findAt_some (s : List UInt8) (run : List CSet) (k : Nat) (h : k + run.length ≤ s.length) (hb : begins (s.drop k) run = true) : ∃ j, findAt s run = some j := by
  cases h' : findAt s run with
  | some j => exact ⟨j, rfl⟩
  | none =>
    unfold findAt at h'
    rw [List.find?_eq_none] at h'
    exact absurd hb (h' k (by simp; omega))

theorem match_star (s : List UInt8) : gmatch [42] s = true := by
  unfold gmatch split
  rw [splitFrom_star, splitFrom_nil]
  simp [matchRuns, begins, middle]

theorem match_stars (s : List UInt8) : gmatch [42, 42] s = true := by
  unfold gmatch split
  rw [splitFrom_star, splitFrom_star, splitFrom_nil]
  obtain ⟨j, hj⟩ := findAt_some s [] 0 (by simp) (by simp [begins])
  simp [matchRuns, begins, middle, hj]

theorem match_one_star : gmatch [63, 42] [] = false := by decide

theorem begins_at (l t : List UInt8) : begins (l ++ t) (l.map single) = true := by
  rw [begins_singles _ _ (by simp)]
  simp

theorem match_around (s p t : List UInt8) : gmatch ([42] ++ quote p ++ [42]) (s ++ p ++ t) = true := by
  unfold gmatch split
  rw [List.append_assoc, List.singleton_append, splitFrom_star, splitFrom_quoted, splitFrom_star, splitFrom_nil]
  obtain ⟨j, hj⟩ := findAt_some (s ++ p ++ t) (p.map single) s.length (by simp) (by rw [List.append_assoc, List.drop_left]; exact begins_at p t)
  have ht : List.take ((s ++ p ++ t).length - 0 - 0) (s ++ p ++ t) = s ++ p ++ t := List.take_length
  simp only [matchRuns, begins, middle, List.length_nil, List.getLast_singleton, List.getLast_cons_cons, List.nil_append, List.dropLast_cons_cons, List.dropLast_singleton, List.drop_zero, ht, hj]
  simp

theorem match_behind (p t : List UInt8) : gmatch (quote p ++ [42]) (p ++ t) = true := by
  unfold gmatch split
  rw [splitFrom_quoted, splitFrom_star, splitFrom_nil]
  simp [matchRuns, begins, middle, begins_at p t]

theorem match_ahead (s p : List UInt8) : gmatch ([42] ++ quote p) (s ++ p) = true := by
  unfold gmatch split
  have h := splitFrom_quoted p [] false []
  rw [List.append_nil] at h
  rw [List.singleton_append, splitFrom_star, h, splitFrom_nil]
  have hb := begins_at p []
  rw [List.append_nil] at hb
  simp [matchRuns, begins, middle, hb]

theorem match_any_ahead (x : UInt8) (p : List UInt8) : gmatch ([63] ++ quote p) ([x] ++ p) = true := by
  unfold gmatch split
  have h := splitFrom_quoted p [] false [anyByte]
  rw [List.append_nil] at h
  rw [List.singleton_append, splitFrom_next _ _ _ (by simp) (by simp)]
  have hn : next (63 :: quote p) false = (anyByte, quote p, false) := by simp [next]
  rw [hn]
  simp only [List.nil_append]
  rw [h, splitFrom_nil]
  have hb := begins_at p []
  rw [List.append_nil] at hb
  simp [matchRuns, begins, anyByte, hb]

end Go.Proofs.Glob
