/-
  Slots, plain: headers, which checkpoint is valid, which one is current.
-/
import Derived.Test.YtgcifhhbhoafcaaLogPure
namespace Go.Proofs.Ytgcifhhbhoafcaa
open Go.RowKit Go.Shelf

/-- A header. -/
def hdrS (g st : Nat) (body : List UInt8) : Sec := (83 : UInt8) :: (be 8 g ++ be 8 st ++ be 4 body.length ++ be 4 (crcB body) ++ List.replicate 39 0)
theorem hdrS_len (g st : Nat) (body : List UInt8) : (hdrS g st body).length = 64 := by simp [hdrS, be_len]
/-- A checkpoint. -/
structure Ck where
  g : Nat
  st : Nat
  body : List UInt8
/-- How many bytes a body has at most, in a slot of m sectors. -/
def roomS (m : Nat) : Nat := min ((m - 1) * 64) 1048576
def hG (h : Sec) : Nat := num ((h.drop 1).take 8)
def hS (h : Sec) : Nat := num ((h.drop 9).take 8)
def hN (h : Sec) : Nat := num ((h.drop 17).take 4)
/-- The checkpoint of a slot whose first sector is h and whose others' bytes are data. -/
def chkB (slot : Nat) (h : Sec) (data : List UInt8) (m : Nat) : Option Ck :=
  if hN h ≤ roomS m ∧ 1 ≤ hG h ∧ hG h < 9223372036854775808 ∧ hG h % 2 = slot ∧ hS h ≤ 1152921504606846975 ∧ h = hdrS (hG h) (hS h) (data.take (hN h)) then some ⟨hG h, hS h, data.take (hN h)⟩ else none
def chk (slot : Nat) (B : List Sec) : Option Ck :=
  match B with
  | [] => none
  | h :: rest => chkB slot h rest.flatten (rest.length + 1)
theorem hdrS_g (g st : Nat) (body : List UInt8) (h : g < 18446744073709551616) : hG (hdrS g st body) = g := by
  have : ((hdrS g st body).drop 1).take 8 = be 8 g := by
    unfold hdrS
    rw [List.drop_succ_cons, List.drop_zero, List.append_assoc, List.append_assoc, List.append_assoc, List.take_append_of_le_length (by simp [be_len]), List.take_of_length_le (by simp [be_len])]
  rw [hG, this, num_be]
  exact Nat.mod_eq_of_lt (by omega)
theorem hdrS_s (g st : Nat) (body : List UInt8) (h : st < 18446744073709551616) : hS (hdrS g st body) = st := by
  have : ((hdrS g st body).drop 9).take 8 = be 8 st := by
    unfold hdrS
    rw [List.drop_succ_cons, List.append_assoc, List.append_assoc, List.append_assoc, List.drop_append_of_le_length (by simp [be_len]), List.drop_eq_nil_of_le (by simp [be_len]), List.nil_append, List.take_append_of_le_length (by simp [be_len]), List.take_of_length_le (by simp [be_len])]
  rw [hS, this, num_be]
  exact Nat.mod_eq_of_lt (by omega)
theorem hdrS_n (g st : Nat) (body : List UInt8) (h : body.length < 4294967296) : hN (hdrS g st body) = body.length := by
  have : ((hdrS g st body).drop 17).take 4 = be 4 body.length := by
    unfold hdrS
    rw [List.drop_succ_cons, List.append_assoc, List.append_assoc, List.drop_append_of_le_length (by simp [be_len]), List.drop_eq_nil_of_le (by simp [be_len]), List.nil_append, List.take_append_of_le_length (by simp [be_len]), List.take_of_length_le (by simp [be_len])]
  rw [hN, this, num_be]
  exact Nat.mod_eq_of_lt (by omega)
/-- What is written is read. -/
theorem chk_written (g st : Nat) (body : List UInt8) (rest : List Sec) (h1 : 1 ≤ g) (h2 : g < 9223372036854775808) (h3 : st ≤ 1152921504606846975) (h4 : body.length ≤ roomS (rest.length + 1)) (h5 : rest.flatten.take body.length = body) : chk (g % 2) (hdrS g st body :: rest) = some ⟨g, st, body⟩ := by
  have hb : body.length < 4294967296 := by unfold roomS at h4; omega
  show chkB _ _ _ _ = _
  unfold chkB
  rw [hdrS_g g st body (by omega), hdrS_s g st body (by omega), hdrS_n g st body hb, h5, if_pos ⟨h4, h1, h2, rfl, h3, rfl⟩]
/-- What is read has such a header. -/
theorem chk_some {slot : Nat} {h : Sec} {rest : List Sec} {c : Ck} (hc : chk slot (h :: rest) = some c) : c.g = hG h ∧ 1 ≤ c.g ∧ c.g < 9223372036854775808 ∧ c.g % 2 = slot ∧ c.st ≤ 1152921504606846975 := by
  have hc' : chkB slot h rest.flatten (rest.length + 1) = some c := hc
  unfold chkB at hc'
  split at hc'
  · rename_i h1
    cases hc'
    exact ⟨rfl, h1.2.1, h1.2.2.1, h1.2.2.2.1, h1.2.2.2.2.1⟩
  · cases hc'
theorem chk_old {slot : Nat} {h : Sec} {rest : List Sec} {c : Ck} {g st : Nat} {body : List UInt8} (hc : chk slot (h :: rest) = some c) (he : h = hdrS g st body) (hg : g < 18446744073709551616) : c.g = g := by
  rw [(chk_some hc).1, he, hdrS_g g st body hg]
/-- The newer one. -/
def newer : Option Ck → Option Ck → Option Ck
  | none, b => b
  | some a, none => some a
  | some a, some b => if a.g < b.g then some b else some a
/-- The current checkpoint of two slots of m sectors. -/
def cur (m : Nat) (S : List Sec) : Option Ck := newer (chk 0 (S.take m)) (chk 1 ((S.drop m).take m))
def genOf (c : Option Ck) : Nat := match c with | none => 0 | some x => x.g
def stOf (c : Option Ck) : Nat := match c with | none => 0 | some x => x.st
def bodyOf (c : Option Ck) : List UInt8 := match c with | none => [] | some x => x.body
theorem chk_pos {slot : Nat} {B : List Sec} {c : Ck} (hc : chk slot B = some c) : 1 ≤ c.g ∧ c.g < 9223372036854775808 ∧ c.st ≤ 1152921504606846975 ∧ c.g % 2 = slot := by
  cases B with
  | nil => cases hc
  | cons h rest =>
    obtain ⟨_, h1, h2, h3, h4⟩ := chk_some hc
    exact ⟨h1, h2, h4, h3⟩
theorem chk_body {slot : Nat} {h : Sec} {rest : List Sec} {c : Ck} (hc : chk slot (h :: rest) = some c) : c.body.length ≤ 1048576 := by
  have hc' : chkB slot h rest.flatten (rest.length + 1) = some c := hc
  unfold chkB at hc'
  split at hc'
  · rename_i h1
    cases hc'
    have := h1.1
    unfold roomS at this
    show (List.take _ _).length ≤ _
    rw [List.length_take]
    omega
  · cases hc'
/-- A sector of zeros is no header. -/
theorem chk_zero (slot : Nat) (rest : List Sec) : chk slot (List.replicate 64 0 :: rest) = none := by
  show chkB _ _ _ _ = _
  unfold chkB
  have : hG (List.replicate 64 0) = 0 := by decide
  rw [if_neg (by rw [this]; omega)]
end Go.Proofs.Ytgcifhhbhoafcaa
