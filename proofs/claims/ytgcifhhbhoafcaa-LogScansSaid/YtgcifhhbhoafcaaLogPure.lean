/-
  A log's records, plain: numbers as bytes, headers, body sectors, which record is present.
-/
import Derived.Test.YtgcifhhbhoafcaaDiskWrite
import Derived.Test.YtgcifhhbhoafcaaCrcSum
namespace Go.Proofs.Ytgcifhhbhoafcaa
open Go.RowKit Go.Shelf

/-- A number in so many bytes, the most significant one first. -/
def be : Nat → Nat → List UInt8
  | 0, _ => []
  | m + 1, n => be m (n / 256) ++ [UInt8.ofNat (n % 256)]
theorem be_len : ∀ m n, (be m n).length = m
  | 0, _ => rfl
  | m + 1, n => by simp [be, be_len m]
theorem be_cons : ∀ m n, be (m + 1) n = UInt8.ofNat (n / 256 ^ m % 256) :: be m n
  | 0, n => by simp [be]
  | m + 1, n => by
    rw [be, be_cons m (n / 256), Nat.div_div_eq_div_mul, Nat.mul_comm 256, ← Nat.pow_succ]
    rfl
/-- The number that bytes are. -/
def num (l : List UInt8) : Nat := l.foldl (fun n x => n * 256 + x.toNat) 0
theorem num_snoc (l : List UInt8) (x : UInt8) : num (l ++ [x]) = num l * 256 + x.toNat := by simp [num]
theorem num_be : ∀ m n, num (be m n) = n % 256 ^ m
  | 0, n => by simp [be, num, Nat.mod_one]
  | m + 1, n => by
    rw [be, num_snoc, num_be m, Nat.pow_succ, Nat.mul_comm (256 ^ m), Nat.mod_mul]
    have : (UInt8.ofNat (n % 256)).toNat = n % 256 := UInt8.toNat_ofNat_of_lt' (Nat.mod_lt _ (by decide))
    omega
theorem num_take (l : List UInt8) (k : Nat) (h : k < l.length) : num (l.take (k + 1)) = num (l.take k) * 256 + (l[k]).toNat := by
  rw [List.take_succ_eq_append_getElem h, num_snoc]
theorem num_lt (l : List UInt8) : num l < 256 ^ l.length := by
  suffices h : ∀ k, k ≤ l.length → num (l.take k) < 256 ^ k by
    have := h l.length (Nat.le_refl _)
    rwa [List.take_length] at this
  intro k
  induction k with
  | zero => intro _; simp [num]
  | succ k ih =>
    intro hk
    have h1 := ih (by omega)
    have h2 := (l[k]'(by omega)).toNat_lt
    rw [num_take l k (by omega), Nat.pow_succ]
    omega

/-- The checksum of bytes. -/
def octs (l : List UInt8) : List Nat := l.map (·.toNat)
theorem octs_ok (l : List UInt8) : Crc.Octets (octs l) := fun x hx => by
  obtain ⟨y, _, rfl⟩ := List.mem_map.1 hx
  exact y.toNat_lt
theorem octs_len (l : List UInt8) : (octs l).length = l.length := by simp [octs]
def crcB (l : List UInt8) : Nat := Crc.crc (octs l)
theorem crcB_lt (l : List UInt8) : crcB l < 4294967296 := Crc.crc_lt _ (octs_ok l)

/-- A header. -/
def hdr (stamp : Nat) (body : List UInt8) : Sec := (82 : UInt8) :: (be 8 stamp ++ be 4 body.length ++ be 4 (crcB body) ++ List.replicate 47 0)
theorem hdr_len (stamp : Nat) (body : List UInt8) : (hdr stamp body).length = 64 := by simp [hdr, be_len]
/-- How many sectors a record has. -/
def secs (n : Nat) : Nat := 1 + (n + 62) / 63
/-- A piece of a body in a sector. -/
def bodyS (body : List UInt8) (k : Nat) : Sec := (0 : UInt8) :: ((body.drop (63 * k)).take 63 ++ List.replicate (63 - (body.length - 63 * k)) 0)
theorem bodyS_len (body : List UInt8) (k : Nat) : (bodyS body k).length = 64 := by
  simp only [bodyS, List.length_cons, List.length_append, List.length_take, List.length_drop, List.length_replicate]
  omega
def packed (body : List UInt8) : List Sec := (List.range ((body.length + 62) / 63)).map (bodyS body)
theorem packed_len (body : List UInt8) : (packed body).length = (body.length + 62) / 63 := by simp [packed]
theorem packed_64 (body : List UInt8) : ∀ s ∈ packed body, s.length = 64 := fun s hs => by
  obtain ⟨k, _, rfl⟩ := List.mem_map.1 hs
  exact bodyS_len body k
/-- The first bytes of body sectors. -/
def unpacked (L : List Sec) (n : Nat) : List UInt8 := ((L.map (·.drop 1)).flatten).take n
theorem flatG_len {α β : Type} (f : α → List β) (n : Nat) : ∀ l : List α, (∀ x ∈ l, (f x).length = n) → ((l.map f).flatten).length = l.length * n
  | [], _ => by simp
  | x :: l, h => by
    rw [List.map_cons, List.flatten_cons, List.length_append, h x List.mem_cons_self, flatG_len f n l (fun y hy => h y (List.mem_cons_of_mem _ hy)), List.length_cons, Nat.add_mul]
    omega
theorem flatG_at {α β : Type} (f : α → List β) (n : Nat) : ∀ (l : List α) (i : Nat) (hi : i < l.length), (∀ x ∈ l, (f x).length = n) → ∀ j, j < n → ((l.map f).flatten)[i * n + j]? = (f l[i])[j]?
  | x :: l, 0, _, h, j, hj => by
    rw [List.map_cons, List.flatten_cons, Nat.zero_mul, Nat.zero_add, List.getElem?_append_left (by rw [h x List.mem_cons_self]; exact hj)]
    rfl
  | x :: l, i + 1, hi, h, j, hj => by
    rw [List.map_cons, List.flatten_cons, List.getElem?_append_right (by rw [h x List.mem_cons_self, Nat.add_mul]; omega), h x List.mem_cons_self, show (i + 1) * n + j - n = i * n + j by rw [Nat.add_mul]; omega]
    exact flatG_at f n l i (by simpa using hi) (fun y hy => h y (List.mem_cons_of_mem _ hy)) j hj
theorem unpacked_len {L : List Sec} (h : ∀ s ∈ L, s.length = 64) (n : Nat) (hn : n ≤ L.length * 63) : (unpacked L n).length = n := by
  rw [unpacked, List.length_take, flatG_len (fun s : Sec => s.drop 1) 63 L (fun s hs => by simp [h s hs])]
  omega
theorem unpacked_packed (body : List UInt8) : unpacked (packed body) body.length = body := by
  have h64 : ∀ s ∈ packed body, (s.drop 1).length = 63 := fun s hs => by simp [packed_64 body s hs]
  apply List.ext_getElem?
  intro i
  unfold unpacked
  rw [List.getElem?_take]
  split
  · rename_i hi
    have e := flatG_at (fun s : Sec => s.drop 1) 63 (packed body) (i / 63) (by rw [packed_len]; omega) h64 (i % 63) (Nat.mod_lt _ (by decide))
    rw [show i / 63 * 63 + i % 63 = i by omega] at e
    rw [e]
    simp only [packed, List.getElem_map, List.getElem_range, bodyS, List.drop_one, List.tail_cons]
    rw [List.getElem?_append_left (by rw [List.length_take, List.length_drop]; omega), List.getElem?_take_of_lt (Nat.mod_lt _ (by decide)), List.getElem?_drop]
    congr 1
    omega
  · rw [List.getElem?_eq_none (by omega)]

/-- The body of the record at the beginning of sectors, if it is present. -/
def rdRec (B : List Sec) (stamp : Nat) : Option (List UInt8) :=
  match B with
  | [] => none
  | h :: rest =>
    let n := num ((h.drop 9).take 4)
    if 1048576 < n ∨ rest.length + 1 < secs n then none
    else
      let body := unpacked (rest.take (secs n - 1)) n
      if h = hdr stamp body ∧ rest.take (secs n - 1) = packed body then some body else none
theorem hdr_num (stamp : Nat) (body : List UInt8) (h : body.length < 4294967296) : num (((hdr stamp body).drop 9).take 4) = body.length := by
  have : ((hdr stamp body).drop 9).take 4 = be 4 body.length := by
    unfold hdr
    rw [List.drop_succ_cons, List.append_assoc, List.append_assoc, List.drop_append_of_le_length (by simp [be_len]), List.drop_eq_nil_of_le (by simp [be_len]), List.nil_append, List.take_append_of_le_length (by simp [be_len]), List.take_of_length_le (by simp [be_len])]
  rw [this, num_be]
  exact Nat.mod_eq_of_lt (by omega)
/-- What is written is read. -/
theorem rdRec_written (stamp : Nat) (body : List UInt8) (more : List Sec) (h : body.length ≤ 1048576) : rdRec (hdr stamp body :: (packed body ++ more)) stamp = some body := by
  unfold rdRec
  simp only [hdr_num stamp body (by omega)]
  have e : secs body.length - 1 = (packed body).length := by rw [packed_len]; unfold secs; omega
  rw [if_neg (by rw [List.length_append, packed_len]; unfold secs; omega), e, List.take_append_of_le_length (Nat.le_refl _), List.take_length, unpacked_packed, if_pos ⟨rfl, rfl⟩]
/-- What is read is written there. -/
theorem rdRec_some {B : List Sec} {stamp : Nat} {body : List UInt8} (hB : ∀ s ∈ B, s.length = 64) (h : rdRec B stamp = some body) : body.length ≤ 1048576 ∧ ∃ more, B = hdr stamp body :: (packed body ++ more) := by
  cases B with
  | nil => cases h
  | cons hd rest =>
    unfold rdRec at h
    simp only at h
    split at h
    · cases h
    · rename_i h1
      split at h
      · rename_i h2
        cases h
        have hl : (unpacked (rest.take (secs (num ((hd.drop 9).take 4)) - 1)) (num ((hd.drop 9).take 4))).length = num ((hd.drop 9).take 4) := by
          refine unpacked_len (fun s hs => hB s (List.mem_cons_of_mem _ (List.mem_of_mem_take hs))) _ ?_
          rw [List.length_take]
          unfold secs at h1 ⊢
          omega
        refine ⟨by rw [hl]; omega, rest.drop (secs (num ((hd.drop 9).take 4)) - 1), ?_⟩
        rw [← h2.2, List.take_append_drop, ← h2.1]
      · cases h
/-- The entries' bodies: one record behind the other, as long as there is one. -/
def scan : Nat → List Sec → Nat → List (List UInt8)
  | 0, _, _ => []
  | f + 1, B, last => if last < 1152921504606846975 then (match rdRec B (last + 1) with | none => [] | some b => b :: scan f (B.drop (secs b.length)) (last + 1)) else []
end Go.Proofs.Ytgcifhhbhoafcaa
