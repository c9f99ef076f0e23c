/-
  Slices of bytes: what is appended of them, what they read as; what bytes.Clone and bytes.Equal answer.
-/
import Derived.Test.YtehdbnjkgdfgbaaCrcSum
import Derived.Laws.AppendOwnNone
import Derived.Laws.CopyOwn
import Derived.Laws.MakeOwn
import Derived.Laws.IdiomStrings
import Derived.Deep.AppendLies
import Derived.OwnWalk
namespace Go.Proofs.Ytehdbnjkgdfgbaa
open Go.RowKit

theorem info_u8 : (Try.prog.info? 5).map (fun i => (i.zero, i.size, i.bytes)) = some (some (.int .u8 0), 1, 1) := by kernel_rfl

/-- The cells of the bytes l. -/
def bcells (l : List Nat) : List Value := l.map fun (x : Nat) => Value.int .u8 (x : Int)
theorem bcells_len (l : List Nat) : (bcells l).length = l.length := by simp [bcells]
theorem bcells_append (a b : List Nat) : bcells (a ++ b) = bcells a ++ bcells b := by simp [bcells]
theorem bcells_at (l : List Nat) (j : Nat) (u : Value) (h : (bcells l)[j]? = some u) : j < l.length ∧ u = .int .u8 (l.getD j 0 : Nat) := by
  have hj : j < l.length := by
    have := (List.getElem?_eq_some_iff.1 h).1
    simpa [bcells] using this
  refine ⟨hj, ?_⟩
  simp [bcells, List.getElem?_eq_getElem hj] at h
  rw [← h, List.getD_eq_getElem?_getD, List.getElem?_eq_getElem hj]
  rfl
theorem bcells_get (l : List Nat) (j : Nat) (hj : j < l.length) : (bcells l)[j]? = some (.int .u8 (l.getD j 0 : Nat)) := by
  simp [bcells, List.getElem?_eq_getElem hj, List.getD_eq_getElem?_getD]
theorem bcells_one (l : List Nat) : ∀ u ∈ bcells l, u.oneCell' = true := by
  intro u hu
  obtain ⟨x, _, rfl⟩ := List.mem_map.1 hu
  rfl

/-- A slice of the bytes l: its address p, its capacity c. -/
structure BytesIn (w : World) (p : Option Addr) (c : Nat) (l : List Nat) : Prop where
  nil : p = none → l = [] ∧ c = 0
  at_ : BytesAt w p l

theorem BytesIn.add {w : World} {ad : Addr} {c : Nat} {l : List Nat} (h : BytesIn w (some ad) c l) (j : Nat) (hj : j < l.length) : w.cell? (ad.add j) = some (.int .u8 (l.getD j 0 : Nat)) := by
  obtain ⟨b, o, hp, hc⟩ := h.at_ (by omega)
  cases hp
  rw [Go.WideShapes.add_plain]
  exact hc j hj
theorem BytesIn.below {w w' : World} {p : Option Addr} {c : Nat} {l : List Nat} (h : BytesIn w p c l) (hb : Below w.heap.size w w') : BytesIn w' p c l :=
  ⟨h.nil, fun hl => by
    obtain ⟨b, o, hpp, hc⟩ := h.at_ hl
    refine ⟨b, o, hpp, fun i hi => ?_⟩
    exact (hb.cell (p := ⟨b, o + i, none⟩) (World.block_lt_of_cell? w _ (hc i hi))).trans (hc i hi)⟩

/-- A row of the call's own, as a slice of bytes. -/
theorem owned_in {w : World} {B g cap : Nat} {l : List Nat} (h : w.ownsRow B 5 1 (.slice (some ⟨g, 0, none⟩) l.length cap) l.length (bcells l)) : BytesIn w (some ⟨g, 0, none⟩) cap l :=
  ⟨fun h => (by cases h), fun _ => ⟨g, 0, rfl, fun i hi => by
    rw [Nat.zero_add, h.cellAt i (by omega)]
    exact bcells_get l i hi⟩⟩

/-- append(own, b...), b any slice of bytes -/
theorem append_bytes {w : World} {ops : Array Oper} {rest : List Oper} {o : Oper} {a : Act} {Q : Exit → Act → World → Prop} (hgd : o.guard = none) (s x : Operand)
    (ho : o.op = .call { callee := .builtin .append, args := #[s, x], argTypes := #[24, 24] })
    (base : Nat) (v : Value) (n : Nat) (xs : List Value) (hs : a.eval s = v) (hown : w.ownsRow base 5 1 v n xs)
    (p : Option Addr) (m c : Nat) (l : List Nat) (hx : a.eval x = .slice p m c) (hl : l.length = m) (hb : BytesIn w p c l)
    (hbytes : n + m ≤ 140737488355328) (hbase : base ≤ w.heap.size)
    (h : ∀ v' w', w'.ownsRow base 5 1 v' (n + m) (xs ++ bcells l) → w.grownBy w' v.ownBlock → (v' = .slice none 0 0 ↔ v = .slice none 0 0 ∧ m = 0) → wpList Try.prog ops Q rest (a.put o.dst v') w') : wpList Try.prog ops Q (o :: rest) a w := by
  obtain ⟨i0, hi, hz0, hz1, hz2⟩ := info_parts info_u8
  cases p with
  | none =>
    obtain ⟨rfl, rfl⟩ := hb.nil rfl
    obtain rfl : m = 0 := hl.symm
    refine wpList_append_own_none hgd s x 24 ho base 5 i0 1 Try.underlying24 hi v n xs hs hown hx ?_
    exact h v w (by simpa [bcells] using hown) (World.grownBy.refl w v.ownBlock) (by simp)
  | some ad =>
    refine wpList_append_own _ hgd s x 24 ho base 5 i0 (.int .u8 0) 1 1 Try.underlying24 hi hz0 hz1 hz2 rfl (by decide) v n xs hs hown ad m c (bcells l) hx (by rw [bcells_len]; omega) ?_ (bcells_one l) (by unfold maxLen; omega) (by omega) hbase h
    intro j u hj
    obtain ⟨hjl, rfl⟩ := bcells_at l j u hj
    exact hb.add j hjl

/-- The string of the bytes l. -/
def strN (l : List Nat) : ByteArray := ⟨(l.map UInt8.ofNat).toArray⟩
theorem octet_toNat {x : Nat} (h : x < 256) : (UInt8.ofNat x).toNat = x := by simp [Nat.mod_eq_of_lt h]
theorem strN_inj {a b : List Nat} (ha : Crc.Octets a) (hb : Crc.Octets b) (h : strN a = strN b) : a = b := by
  have h1 : a.map UInt8.ofNat = b.map UInt8.ofNat := by
    have := congrArg (fun s : ByteArray => s.data.toList) h
    simpa [strN] using this
  have back : ∀ l : List Nat, Crc.Octets l → (l.map UInt8.ofNat).map UInt8.toNat = l := by
    intro l hl
    rw [List.map_map]
    exact (List.map_congr_left (fun x hx => octet_toNat (hl x hx))).trans (List.map_id l)
  rw [← back a ha, h1, back b hb]
theorem strN_eq (a b : List Nat) (ha : Crc.Octets a) (hb : Crc.Octets b) : ((strN a).toList == (strN b).toList) = decide (a = b) := by
  rw [Bool.eq_iff_iff, beq_iff_eq, decide_eq_true_iff, ByteArray.toList_eq, ByteArray.toList_eq]
  constructor
  · intro h
    apply strN_inj ha hb
    unfold strN at h ⊢
    simpa using h
  · rintro rfl; rfl

theorem convert_in {w : World} {p : Option Addr} {c : Nat} {l : List Nat} (h : BytesIn w p c l) (ho : Crc.Octets l) : (convert 24 9 (.slice p l.length c)).run Try.prog w = .ok (.string (strN l)) w := by
  cases p with
  | none =>
    obtain ⟨rfl, rfl⟩ := h.nil rfl
    rw [run_convert_bytes_string w _ _ 5 none _ _ Try.underlying24 Try.underlying5 Try.underlying9]
    rfl
  | some ad =>
    have := run_convert_bytes_back (P := Try.prog) w 24 9 5 ad c (l.map UInt8.ofNat) Try.underlying24 Try.underlying5 Try.underlying9 (fun j hj => by
      have hj' : j < l.length := by simpa using hj
      rw [h.add j hj', List.getElem_map, octet_toNat (ho _ (List.getElem_mem _)), List.getD_eq_getElem?_getD, List.getElem?_eq_getElem hj']
      rfl)
    rw [List.length_map] at this
    exact this

set_option maxHeartbeats 400000 in
theorem equal_any (a b : List Nat) (ha : Crc.Octets a) (hb : Crc.Octets b) (p q : Option Addr) (c d : Nat) (w : World) (h1 : BytesIn w p c a) (h2 : BytesIn w q d b) :
    Calls Try.prog 15 #[.slice p a.length c, .slice q b.length d] w fun e w' => e = .returned (.bool (decide (a = b))) ∧ w = w' := by
  have e1 := convert_in h1 ha
  have e2 := convert_in h2 hb
  have hq := strN_eq a b ha hb
  generalize strN a = A at *
  generalize strN b = B at *
  go_enter Try.func15, Try.ntmps15
  go_wp2
  go_ret
  exact ⟨rfl, rfl⟩
end Go.Proofs.Ytehdbnjkgdfgbaa
