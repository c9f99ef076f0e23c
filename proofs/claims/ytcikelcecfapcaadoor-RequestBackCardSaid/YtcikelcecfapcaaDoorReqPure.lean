/-
  Plain facts on the parsing of commands, of no program: what is told does not depend on how the input is divided.
-/
import Derived.Test.YtcikelcecfapcaaDoorRespTake0
namespace Go.Proofs.YtcikelcecfapcaaDoor.Rq
open Go Rp

/-- A word. -/
abbrev Wd := List UInt8

/-! ### Lines, numbers, words -/

def lfAt (l : List UInt8) : Nat := l.findIdx (· == 10)
theorem lfAt_app (l x : List UInt8) (h : lfAt l < l.length) : lfAt (l ++ x) = lfAt l := by
  unfold lfAt at *
  rw [List.findIdx_append, if_pos h]
theorem lfAt_app_ge (l x : List UInt8) (h : ¬ lfAt l < l.length) : l.length ≤ lfAt (l ++ x) := by
  unfold lfAt at *
  rw [List.findIdx_append, if_neg h]
  omega
/-- The first line without its end, and what follows; 10, 11, 12: the errors. -/
def lineQ (l : List UInt8) : Except Int (Wd × List UInt8) :=
  if lfAt l < l.length ∧ lfAt l < 1026 then
    (if lfAt l ≠ 0 ∧ l[lfAt l - 1]? = some 13 then .ok (l.take (lfAt l - 1), l.drop (lfAt l + 1)) else .error 10)
  else if l.length < 1026 then .error 11 else .error 12

theorem lineQ_ok {l : List UInt8} {t r : List UInt8} (h : lineQ l = .ok (t, r)) : lfAt l < l.length ∧ lfAt l < 1026 ∧ lfAt l ≠ 0 ∧ l[lfAt l - 1]? = some 13 ∧ t = l.take (lfAt l - 1) ∧ r = l.drop (lfAt l + 1) := by
  unfold lineQ at h
  split at h
  · rename_i h1
    split at h
    · rename_i h2
      simp only [Except.ok.injEq, Prod.mk.injEq] at h
      exact ⟨h1.1, h1.2, h2.1, h2.2, h.1.symm, h.2.symm⟩
    · cases h
  · split at h <;> cases h
theorem lineQ_app_ok {l t r : List UInt8} (x : List UInt8) (h : lineQ l = .ok (t, r)) : lineQ (l ++ x) = .ok (t, r ++ x) := by
  obtain ⟨h1, h2, h3, h4, rfl, rfl⟩ := lineQ_ok h
  have e := lfAt_app l x h1
  unfold lineQ
  rw [e, if_pos ⟨by rw [List.length_append]; omega, h2⟩, if_pos ⟨h3, by rw [List.getElem?_append_left (by omega)]; exact h4⟩, List.take_append_of_le_length (by omega), List.drop_append_of_le_length (by omega)]
theorem lineQ_app_err {l : List UInt8} {e : Int} (x : List UInt8) (h : lineQ l = .error e) (he : e ≠ 11) : lineQ (l ++ x) = .error e := by
  unfold lineQ at h
  split at h
  · rename_i h1
    split at h
    · cases h
    · rename_i h2
      cases h
      have e := lfAt_app l x h1.1
      unfold lineQ
      rw [e, if_pos ⟨by rw [List.length_append]; omega, h1.2⟩, if_neg]
      rintro ⟨h3, h4⟩
      rw [List.getElem?_append_left (by omega)] at h4
      exact h2 ⟨h3, h4⟩
  · rename_i h1
    split at h
    · cases h; exact absurd rfl he
    · rename_i h2
      cases h
      have hg : ¬ lfAt (l ++ x) < 1026 := by
        by_cases hl : lfAt l < l.length
        · rw [lfAt_app l x hl]
          exact fun h3 => h1 ⟨hl, h3⟩
        · have := lfAt_app_ge l x hl
          omega
      unfold lineQ
      rw [if_neg (fun h3 => hg h3.2), if_neg (by rw [List.length_append]; omega)]
theorem lineQ_len {l t r : List UInt8} (h : lineQ l = .ok (t, r)) : t.length + r.length + 2 = l.length := by
  obtain ⟨h1, h2, h3, h4, rfl, rfl⟩ := lineQ_ok h
  rw [List.length_take, List.length_drop]
  omega

def numQ (s : Wd) (least most : Int) : Except Int Int :=
  match parseL s with
  | none => .error 10
  | some n => if n < least then .error 10 else if most < n then .error 12 else .ok n
theorem numQ_err {s : Wd} {a b e : Int} (h : numQ s a b = .error e) : e = 10 ∨ e = 12 := by
  unfold numQ at h
  split at h
  · cases h; exact .inl rfl
  · split at h
    · cases h; exact .inl rfl
    · split at h
      · cases h; exact .inr rfl
      · cases h
theorem numQ_ok {s : Wd} {a b n : Int} (h : numQ s a b = .ok n) : a ≤ n ∧ n ≤ b ∧ parseL s = some n := by
  unfold numQ at h
  split at h
  · cases h
  · rename_i hp
    split at h
    · cases h
    · split at h
      · cases h
      · cases h
        exact ⟨by omega, by omega, hp⟩

theorem crlf_app {l : List UInt8} (x : List UInt8) (h : 2 ≤ l.length) : crlf (l ++ x) = crlf l := by
  match l, h with
  | a :: b :: l, _ => simp [crlf, List.isPrefixOf]

/-- What follows a word's first line. -/
def bodyQ (n : Nat) (r : List UInt8) : Except Int (Wd × List UInt8) :=
  if r.length < n + 2 then .error 11 else if crlf (r.drop n) then .ok (r.take n, r.drop (n + 2)) else .error 10
/-- A word, and what follows. -/
def wordQ (l : List UInt8) : Except Int (Wd × List UInt8) :=
  match lineQ l with
  | .error e => .error e
  | .ok ([], _) => .error 10
  | .ok (x :: s, r) => if x = 36 then (match numQ s 0 4096 with | .error e => .error e | .ok n => bodyQ n.toNat r) else .error 10

theorem bodyQ_app_ok {n : Nat} {r w r2 : List UInt8} (x : List UInt8) (h : bodyQ n r = .ok (w, r2)) : bodyQ n (r ++ x) = .ok (w, r2 ++ x) := by
  unfold bodyQ at h ⊢
  split at h
  · cases h
  · rename_i h1
    split at h
    · rename_i h2
      cases h
      rw [if_neg (by rw [List.length_append]; omega), List.drop_append_of_le_length (by omega), crlf_app _ (by rw [List.length_drop]; omega), if_pos h2, List.take_append_of_le_length (by omega), List.drop_append_of_le_length (by omega)]
    · cases h
theorem bodyQ_app_err {n : Nat} {r : List UInt8} {e : Int} (x : List UInt8) (h : bodyQ n r = .error e) (he : e ≠ 11) : bodyQ n (r ++ x) = .error e := by
  unfold bodyQ at h ⊢
  split at h
  · cases h; exact absurd rfl he
  · rename_i h1
    split at h
    · cases h
    · rename_i h2
      cases h
      rw [if_neg (by rw [List.length_append]; omega), List.drop_append_of_le_length (by omega), crlf_app _ (by rw [List.length_drop]; omega), if_neg h2]
theorem wordQ_app_ok {l w r : List UInt8} (x : List UInt8) (h : wordQ l = .ok (w, r)) : wordQ (l ++ x) = .ok (w, r ++ x) := by
  unfold wordQ at h
  split at h
  · cases h
  · cases h
  · rename_i y s r0 hl
    split at h
    · rename_i hy
      split at h
      · cases h
      · rename_i n hn
        unfold wordQ
        rw [lineQ_app_ok x hl]
        simp only [if_pos hy, hn]
        exact bodyQ_app_ok x h
    · cases h
theorem wordQ_app_err {l : List UInt8} {e : Int} (x : List UInt8) (h : wordQ l = .error e) (he : e ≠ 11) : wordQ (l ++ x) = .error e := by
  unfold wordQ at h
  split at h
  · rename_i e' hl
    cases h
    unfold wordQ
    rw [lineQ_app_err x hl he]
  · rename_i r0 hl
    unfold wordQ
    rw [lineQ_app_ok x hl]
    exact h
  · rename_i y s r0 hl
    unfold wordQ
    rw [lineQ_app_ok x hl]
    split at h
    · rename_i hy
      simp only [if_pos hy]
      split at h
      · exact h
      · exact bodyQ_app_err x h he
    · rename_i hy
      simp only [if_neg hy]
      exact h
theorem wordQ_len {l w r : List UInt8} (h : wordQ l = .ok (w, r)) : w.length + r.length + 2 ≤ l.length := by
  unfold wordQ at h
  split at h
  · cases h
  · cases h
  · rename_i y s r0 hl
    have := lineQ_len hl
    split at h
    · split at h
      · cases h
      · unfold bodyQ at h
        split at h
        · cases h
        · split at h
          · cases h
            rw [List.length_take, List.length_drop]
            omega
          · cases h
    · cases h

/-- The words of a line; w: the bytes of the one that has begun. -/
def fieldsQ : List UInt8 → Wd → List Wd
  | [], w => if w = [] then [] else [w]
  | x :: s, w => if x = 32 then (if w = [] then fieldsQ s [] else w :: fieldsQ s []) else fieldsQ s (w ++ [x])

/-! ### The parser -/

/-- Where a reader stands: the number of words of the array that has begun, the words taken, the bytes taken, the rest. -/
structure St where
  c : Nat
  ws : List Wd
  tk : Nat
  l : List UInt8
/-- A reader that stands at no array. -/
def St.new (l : List UInt8) : St := ⟨0, [], 0, l⟩
def St.add (s : St) (x : List UInt8) : St := ⟨s.c, s.ws, s.tk, s.l ++ x⟩

/-- One step at a line that is no word's. -/
def lineStep (l : List UInt8) : Except Int (St × List (List Wd)) :=
  match lineQ l with
  | .error e => .error e
  | .ok (t, r) => if t.head? = some 42 then (match numQ t.tail 1 128 with | .error e => .error e | .ok n => .ok (⟨n.toNat, [], l.length - r.length, r⟩, []))
    else if 128 < (fieldsQ t []).length then .error 12 else .ok (St.new r, if fieldsQ t [] = [] then [] else [fieldsQ t []])
/-- One step within an array. -/
def wordStep (s : St) : Except Int (St × List (List Wd)) :=
  match wordQ s.l with
  | .error e => .error e
  | .ok (w, r) => if s.ws.length + 1 = s.c then .ok (St.new r, [s.ws ++ [w]]) else .ok (⟨s.c, s.ws ++ [w], s.tk + (s.l.length - r.length), r⟩, [])
def step (s : St) : Except Int (St × List (List Wd)) := if s.c = 0 then lineStep s.l else wordStep s

inductive Stop where
  | more (s : St)
  | err (e : Int)
def stopOf (e : Int) (s : St) : Stop := if e = 11 then .more s else .err e
/-- The bytes that wait; the error. -/
def Stop.wait : Stop → Nat | .more s => s.tk + s.l.length | .err _ => 0
def Stop.code : Stop → Int | .more _ => 0 | .err e => e

/-- From where a reader stands: the commands that are told, and how it stops. -/
inductive Go : St → List (List Wd) → Stop → Prop
  | stop {s : St} {e : Int} : step s = .error e → Go s [] (stopOf e s)
  | next {s s' : St} {o cs : List (List Wd)} {t : Stop} : step s = .ok (s', o) → Go s' cs t → Go s (o ++ cs) t

theorem Go.det {s : St} {cs : List (List Wd)} {t : Stop} (h : Go s cs t) : ∀ {cs' t'}, Go s cs' t' → cs = cs' ∧ t = t' := by
  induction h with
  | stop h =>
    intro cs' t' h'
    cases h' with
    | stop h2 => rw [h] at h2; cases h2; exact ⟨rfl, rfl⟩
    | next h2 _ => rw [h] at h2; cases h2
  | next h _ ih =>
    intro cs' t' h'
    cases h' with
    | stop h2 => rw [h] at h2; cases h2
    | next h2 g2 =>
      rw [h] at h2
      cases h2
      obtain ⟨rfl, rfl⟩ := ih g2
      exact ⟨rfl, rfl⟩

theorem sub_app (l r x : List UInt8) (h : r.length ≤ l.length) : (l ++ x).length - (r ++ x).length = l.length - r.length := by
  rw [List.length_append, List.length_append]; omega

theorem step_app_ok {s s' : St} {o : List (List Wd)} (x : List UInt8) (h : step s = .ok (s', o)) : step (s.add x) = .ok (s'.add x, o) := by
  unfold step at h ⊢
  split at h
  · rename_i hc
    rw [if_pos (show (s.add x).c = 0 from hc)]
    show lineStep (s.l ++ x) = _
    unfold lineStep at h ⊢
    split at h
    · cases h
    · rename_i t r hl
      rw [lineQ_app_ok x hl]
      have hlen := lineQ_len hl
      simp only
      split at h
      · rename_i ht
        rw [if_pos ht]
        split at h
        · cases h
        · rename_i n hn
          cases h
          rw [sub_app _ _ _ (by omega)]
          rfl
      · rename_i ht
        rw [if_neg ht]
        split at h
        · cases h
        · rename_i hf
          cases h
          rw [if_neg hf]
          rfl
  · rename_i hc
    rw [if_neg (show ¬ (s.add x).c = 0 from hc)]
    unfold wordStep at h ⊢
    show (match wordQ (s.l ++ x) with | .error e => _ | .ok (w, r) => _) = _
    split at h
    · cases h
    · rename_i w r hw
      have hlen := wordQ_len hw
      rw [wordQ_app_ok x hw]
      simp only
      split at h
      · rename_i hz
        cases h
        rw [if_pos (show (s.add x).ws.length + 1 = (s.add x).c from hz)]
        rfl
      · rename_i hz
        cases h
        rw [if_neg (show ¬ (s.add x).ws.length + 1 = (s.add x).c from hz)]
        show Except.ok ((⟨s.c, s.ws ++ [w], s.tk + ((s.l ++ x).length - (r ++ x).length), r ++ x⟩ : St), []) = _
        rw [sub_app _ _ _ (by omega)]
        rfl
theorem step_app_err {s : St} {e : Int} (x : List UInt8) (h : step s = .error e) (he : e ≠ 11) : step (s.add x) = .error e := by
  unfold step at h ⊢
  split at h
  · rename_i hc
    rw [if_pos (show (s.add x).c = 0 from hc)]
    show lineStep (s.l ++ x) = _
    unfold lineStep at h ⊢
    split at h
    · rename_i e' hl
      cases h
      rw [lineQ_app_err x hl he]
    · rename_i t r hl
      rw [lineQ_app_ok x hl]
      simp only
      split at h
      · rename_i ht
        rw [if_pos ht]
        split at h
        · exact h
        · cases h
      · rename_i ht
        rw [if_neg ht]
        split at h
        · rename_i hf
          rw [if_pos hf]
          exact h
        · cases h
  · rename_i hc
    rw [if_neg (show ¬ (s.add x).c = 0 from hc)]
    unfold wordStep at h ⊢
    show (match wordQ (s.l ++ x) with | .error e => _ | .ok (w, r) => _) = _
    split at h
    · rename_i e' hw
      cases h
      rw [wordQ_app_err x hw he]
    · split at h <;> cases h

/-- How a reader that lacks something goes on when more comes. -/
theorem Go.app {s : St} {cs : List (List Wd)} {t : Stop} (h : Go s cs t) : ∀ {s' : St} (_ : t = .more s') (x : List UInt8) {cs2 : List (List Wd)} {t2 : Stop}, Go (s'.add x) cs2 t2 → Go (s.add x) (cs ++ cs2) t2 := by
  induction h with
  | @stop s e h =>
    intro s' ht x cs2 t2 h2
    unfold stopOf at ht
    split at ht
    · cases ht
      exact h2
    · cases ht
  | next h _ ih =>
    intro s' ht x cs2 t2 h2
    rw [List.append_assoc]
    exact .next (step_app_ok x h) (ih ht x h2)
theorem Go.app_err {s : St} {cs : List (List Wd)} {t : Stop} (h : Go s cs t) : ∀ {e : Int} (_ : t = .err e) (x : List UInt8), Go (s.add x) cs (.err e) := by
  induction h with
  | @stop s e h =>
    intro e' ht x
    unfold stopOf at ht
    split at ht
    · cases ht
    · rename_i he
      cases ht
      have := Go.stop (step_app_err x h he)
      unfold stopOf at this
      rw [if_neg he] at this
      exact this
  | next h _ ih =>
    intro e ht x
    exact .next (step_app_ok x h) (ih ht x)

theorem step_len {s s' : St} {o : List (List Wd)} (h : step s = .ok (s', o)) : s'.l.length + 2 ≤ s.l.length := by
  unfold step at h
  split at h
  · unfold lineStep at h
    split at h
    · cases h
    · rename_i t r hl
      have := lineQ_len hl
      split at h
      · split at h
        · cases h
        · cases h; show r.length + 2 ≤ _; omega
      · split at h
        · cases h
        · cases h; show r.length + 2 ≤ _; omega
  · unfold wordStep at h
    split at h
    · cases h
    · rename_i w r hw
      have := wordQ_len hw
      split at h
      · cases h; show r.length + 2 ≤ _; omega
      · cases h; show r.length + 2 ≤ _; omega

/-- A reader stops. -/
theorem Go.total : ∀ (n : Nat) (s : St), s.l.length ≤ n → ∃ cs t, Go s cs t := by
  intro n
  induction n with
  | zero =>
    intro s hs
    cases h : step s with
    | error e => exact ⟨_, _, .stop h⟩
    | ok y =>
      obtain ⟨s', o⟩ := y
      have := step_len h
      omega
  | succ n ih =>
    intro s hs
    cases h : step s with
    | error e => exact ⟨_, _, .stop h⟩
    | ok y =>
      obtain ⟨s', o⟩ := y
      have := step_len h
      obtain ⟨cs, t, hg⟩ := ih s' (by omega)
      exact ⟨_, _, .next h hg⟩
end Go.Proofs.YtcikelcecfapcaaDoor.Rq
