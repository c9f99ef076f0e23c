/-
  Reading replies, as plain mathematics; the rest of a slice of bytes; num.Parse.
-/
import Derived.Test.YtcikelcecfapcaaDoorRespIdx
import Derived.Test.YtcikelcecfapcaaDoorRespMake
import Derived.Test.YtcikelcecfapcaaDoorNumPlain
import Derived.Lib.SlBytesRowKit
namespace Go.Proofs.YtcikelcecfapcaaDoor
open Go.RowKit Rp

def isB (x : UInt8) : Bool := x == 13 || x == 10
/-- Where the first CR or LF is. -/
def brk (l : List UInt8) : Nat := l.findIdx isB
theorem brk_first (l : List UInt8) : First l (brk l) := by
  refine ⟨List.findIdx_le_length, fun i h hi => ?_, fun h => ?_⟩
  · have := List.not_of_lt_findIdx hi
    simp only [isB, Bool.or_eq_false_iff, beq_eq_false_iff_ne, ne_eq] at this
    exact ⟨this.1, this.2⟩
  · have := List.findIdx_getElem (w := h)
    simp only [isB, Bool.or_eq_true, beq_iff_eq] at this
    exact this

/-- Whether bytes begin with CR LF. -/
def crlf (l : List UInt8) : Bool := ([13, 10] : List UInt8).isPrefixOf l
/-- The first line, and what follows. -/
def cut (l : List UInt8) : Option (List UInt8 × List UInt8) := if crlf (l.drop (brk l)) then some (l.take (brk l), l.drop (brk l + 2)) else none

/-- A decimal form's number. -/
def parseL (l : List UInt8) : Option Int := match Lib.atoiAll l with | .ok v => if Lib.itoa v = l then some v else none | _ => none

/-- So many replies, one behind the other. -/
def many (f : List UInt8 → Option (Rep × List UInt8)) : Nat → List UInt8 → Option (List Rep × List UInt8)
  | 0, b => some ([], b)
  | n + 1, b => match f b with
    | none => none
    | some (x, b1) => match many f n b1 with
      | none => none
      | some (xs, b2) => some (x :: xs, b2)

/-- A bulk's text, behind its first line. -/
def bulkOf (t rest : List UInt8) : Option (Rep × List UInt8) :=
  if t = [45, 49] then some (.mk 4 [] 0 [], rest)
  else match parseL t with
    | none => none
    | some n => if 0 ≤ n ∧ n ≤ rest.length then (if crlf (rest.drop n.toNat) then some (.mk 3 (rest.take n.toNat) 0 [], rest.drop (n.toNat + 2)) else none) else none

/-- An array's elements, behind its first line. -/
def arrayOf (f : List UInt8 → Option (Rep × List UInt8)) (t rest : List UInt8) : Option (Rep × List UInt8) :=
  match parseL t with
  | none => none
  | some n => if 0 ≤ n then (match many f n.toNat rest with
    | none => none
    | some (l, r) => some (.mk 5 [] 0 l, r)) else none

/-- What follows a first line, by its first byte. -/
def kindOf (ar : List UInt8 → List UInt8 → Option (Rep × List UInt8)) (x : UInt8) (t rest : List UInt8) : Option (Rep × List UInt8) :=
  if x = 43 then some (.mk 0 t 0 [], rest)
  else if x = 45 then some (.mk 1 t 0 [], rest)
  else if x = 58 then (match parseL t with | none => none | some n => some (.mk 2 [] n [], rest))
  else if x = 36 then bulkOf t rest
  else if x = 42 then ar t rest
  else none

/-- The reply with whose encoding bytes begin, arrays nested at most d deep, and what follows it. -/
def rd : Nat → List UInt8 → Option (Rep × List UInt8)
  | 0, b => match cut b with | none => none | some ([], _) => none | some (x :: t, rest) => kindOf (fun _ _ => none) x t rest
  | d + 1, b => match cut b with | none => none | some ([], _) => none | some (x :: t, rest) => kindOf (arrayOf (rd d)) x t rest

/-! ### Slices of bytes that are cut -/

/-- A slice of the bytes l, its address plain. -/
def Rest (w : World) (p : Option Addr) (c : Nat) (l : List UInt8) : Prop :=
  (p = none ∧ l = [] ∧ c = 0) ∨ (∃ b o, p = some ⟨b, o, none⟩ ∧ l.length ≤ c ∧ c ≤ maxLen ∧ ∀ (j : Nat) (h : j < l.length), w.cell? ⟨b, o + j, none⟩ = some (.int .u8 (l[j].toNat : Nat)))
theorem Rest.bin {w : World} {p : Option Addr} {c : Nat} {l : List UInt8} (h : Rest w p c l) : Bin w p c l := by
  rcases h with ⟨rfl, rfl, rfl⟩ | ⟨b, o, rfl, h1, h2, h3⟩
  · exact ⟨fun _ => ⟨rfl, rfl⟩, Nat.le_refl _, Nat.zero_le _, fun h => absurd rfl h⟩
  · exact ⟨fun h => (by cases h), h1, h2, fun _ => ⟨b, o, rfl, h3⟩⟩
theorem Rest.below {w w' : World} {p : Option Addr} {c : Nat} {l : List UInt8} (h : Rest w p c l) (hb : Below w.heap.size w w') : Rest w' p c l := by
  rcases h with h | ⟨b, o, hp, h1, h2, h3⟩
  · exact .inl h
  · exact .inr ⟨b, o, hp, h1, h2, fun j hj => (hb.cell (p := ⟨b, o + j, none⟩) (World.block_lt_of_cell? w _ (h3 j hj))).trans (h3 j hj)⟩
theorem rest_drop {w : World} {b o c : Nat} {l : List UInt8} (k : Nat) (hk : k ≤ l.length) (h1 : l.length ≤ c) (h2 : c ≤ maxLen) (h3 : ∀ (j : Nat) (h : j < l.length), w.cell? ⟨b, o + j, none⟩ = some (.int .u8 (l[j].toNat : Nat))) : Rest w (some ⟨b, o + k, none⟩) (c - k) (l.drop k) :=
  .inr ⟨b, o + k, rfl, by rw [List.length_drop]; omega, by omega, fun j hj => by
    rw [List.length_drop] at hj
    rw [List.getElem_drop, Nat.add_assoc]
    exact h3 (k + j) (by omega)⟩

theorem rest_from {w : World} {b o c : Nat} {l : List UInt8} (k : Nat) (hk : k ≤ l.length) (h1 : l.length ≤ c) (h2 : c ≤ maxLen) (h3 : ∀ (j : Nat) (h : j < l.length), w.cell? ⟨b, o + j, none⟩ = some (.int .u8 (l[j].toNat : Nat))) (q : Option Addr) (hq : q = if c = k then some ⟨b, o, none⟩ else some ⟨b, o + k, none⟩) : Rest w q (c - k) (l.drop k) := by
  subst hq
  by_cases hc : c = k
  · rw [if_pos hc]
    have e : l.drop k = [] := List.drop_eq_nil_of_le (by omega)
    rw [e]
    exact .inr ⟨b, o, rfl, Nat.zero_le _, by omega, fun j hj => absurd hj (Nat.not_lt_zero _)⟩
  · rw [if_neg hc]
    exact rest_drop k hk h1 h2 h3

/-- Whatever world holds the one slice holds the other. -/
def Sub (p : Option Addr) (c : Nat) (l : List UInt8) (q : Option Addr) (d : Nat) (r : List UInt8) : Prop := ∀ w0, Rest w0 p c l → Rest w0 q d r
theorem Sub.trans {p q x : Option Addr} {c d y : Nat} {l r s : List UInt8} (h : Sub p c l q d r) (k : Sub q d r x y s) : Sub p c l x y s := fun w0 h0 => k w0 (h w0 h0)
theorem Sub.refl (p : Option Addr) (c : Nat) (l : List UInt8) : Sub p c l p c l := fun _ h => h
theorem sub_from {b o c : Nat} {l : List UInt8} (k : Nat) (hk : k ≤ l.length) (q : Option Addr) (hq : q = if c = k then some ⟨b, o, none⟩ else some ⟨b, o + k, none⟩) : Sub (some ⟨b, o, none⟩) c l q (c - k) (l.drop k) := by
  intro w0 h0
  rcases h0 with ⟨h, _⟩ | ⟨b', o', h, h1, h2, h3⟩
  · cases h
  · simp only [Option.some.injEq, Addr.mk.injEq, and_true] at h
    obtain ⟨rfl, rfl⟩ := h
    exact rest_from k hk h1 h2 h3 q hq

/-- Bytes as numbers. -/
def nums (l : List UInt8) : List Int := l.map fun x => (x.toNat : Int)
theorem nums_len (l : List UInt8) : (nums l).length = l.length := by simp [nums]
theorem nums_bytes (l : List UInt8) : Lib.bytesOf (nums l) = l := by
  unfold Lib.bytesOf nums
  rw [List.map_map]
  conv => rhs; rw [← List.map_id l]
  apply List.map_congr_left
  intro x _
  simp
theorem Rest.ints {w : World} {p : Option Addr} {c : Nat} {l : List UInt8} (h : Rest w p c l) : Lib.BytesIn w p l.length (nums l) := by
  rcases h with ⟨rfl, rfl, rfl⟩ | ⟨b, o, rfl, h1, h2, h3⟩
  · exact Lib.BytesIn.nil _ _ _
  · exact Lib.BytesIn.of_cells fun i hi => by
      rw [Lib.add_plain, h3 i hi]
      simp [nums, List.getD, hi]

/-- bytes.CutPrefix of CR LF. -/
def CutV (w : World) (p : Option Addr) (c : Nat) (l : List UInt8) (e : Ending) (w' : World) : Prop :=
  w' = w ∧ ((crlf l = true ∧ ∃ q d, e = .returned (.tuple #[.slice q (l.length - 2) d, .bool true]) ∧ Sub p c l q d (l.drop 2)) ∨ (crlf l = false ∧ e = .returned (.tuple #[.slice p l.length c, .bool false])))

theorem cutprefix_any {w0 w : World} {p : Option Addr} {c : Nat} {l : List UInt8} (h : Rest w0 p c l) (hb : Below w0.heap.size w0 w) (b2 d : Nat) (h0 : w.cell? ⟨b2, 0, none⟩ = some (.int .u8 13)) (h1 : w.cell? ⟨b2, 1, none⟩ = some (.int .u8 10)) :
    Calls Tryd.prog 66 #[.slice p l.length c, .slice (some ⟨b2, 0, none⟩) 2 d] w (CutV w p c l) := by
  have h2 : Lib.BytesIn w (some ⟨b2, 0, none⟩) 2 [13, 10] := Lib.BytesIn.of_cells fun i hi => by
    rw [Lib.add_plain]
    match i, hi with
    | 0, _ => exact h0
    | 1, _ => exact h1
  refine (Tryd.bytes_CutPrefix_all p (some ⟨b2, 0, none⟩) l.length c 2 d (nums l) [13, 10] w (nums_len l) rfl h.bin.cap (h.below hb).ints h2).mono ?_
  rintro e w' ⟨rfl, rfl⟩
  refine ⟨rfl, ?_⟩
  rw [trimPrefixV_eq (nums_len l) h.ints, nums_bytes]
  have hc : Lib.hasPrefix l (Lib.bytesOf [13, 10]) = crlf l := rfl
  rw [hc]
  cases hx : crlf l
  · exact .inr ⟨rfl, rfl⟩
  · refine .inl ⟨rfl, ?_⟩
    have hlen : 2 ≤ l.length := by
      match l, hx with
      | [], hx => cases hx
      | [a], hx => simp [crlf] at hx
      | a :: b :: r, _ => simp
    rcases h with ⟨rfl, rfl, rfl⟩ | ⟨b, o, rfl, g1, g2, g3⟩
    · simp at hlen
    · exact ⟨_, _, rfl, sub_from 2 hlen _ rfl⟩
end Go.Proofs.YtcikelcecfapcaaDoor
