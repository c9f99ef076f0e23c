/-
  What lies in a region behind a power failure and a crash. Plain.
-/
import Derived.Test.YtnnpfehfoaojfaaLogHold
import Derived.Test.YtnnpfehfoaojfaaLogRec
namespace Go.Proofs.Ytnnpfehfoaojfaa
open Go.RowKit Go.Shelf

theorem done_mess (u l : Nat) : ∀ (L : List Wq) (S : List Sec), (∀ x ∈ L, u ≤ x.1 ∧ Old l x.2 ∧ x.2.length = 64) → (∀ s ∈ S, Old l s) → (∀ s ∈ S, s.length = 64) → (doneS S L).take u = S.take u ∧ (∀ s ∈ doneS S L, Old l s) ∧ (∀ s ∈ doneS S L, s.length = 64)
  | [], S, _, h1, h2 => ⟨rfl, h1, h2⟩
  | x :: L, S, hL, h1, h2 => by
    have hx := hL x List.mem_cons_self
    have hset : ∀ (Q : Sec → Prop), (∀ s ∈ S, Q s) → Q x.2 → ∀ s ∈ S.set x.1 x.2, Q s := fun Q hq hq2 s hs => by
      rcases List.mem_or_eq_of_mem_set hs with h | h
      · exact hq s h
      · rw [h]; exact hq2
    obtain ⟨a, b, c⟩ := done_mess u l L (S.set x.1 x.2) (fun y hy => hL y (List.mem_cons_of_mem _ hy)) (hset _ h1 hx.2.1) (hset _ h2 hx.2.2)
    refine ⟨?_, b, c⟩
    show (doneS (S.set x.1 x.2) L).take u = _
    rw [a, List.take_set, List.set_eq_of_length_le (by rw [List.length_take]; omega)]
theorem kept_mem {K : Nat → Bool} {N : Nat} {ws : List Wq} {ha : ∀ x ∈ ws, x.1 < N ∧ x.2.length = 64} {x : Wq} (h : x ∈ keptOf K ws ha) : x ∈ ws := by
  unfold keptOf pend at h
  obtain ⟨y, hy, rfl⟩ := List.mem_map.1 h
  obtain ⟨j, _, rfl⟩ := List.mem_map.1 (List.mem_filter.1 hy).1
  exact List.getElem_mem j.2
theorem kept_one {K : Nat → Bool} {N : Nat} {x : Wq} (ha : ∀ y ∈ [x], y.1 < N ∧ y.2.length = 64) : keptOf K [x] ha = [] ∨ keptOf K [x] ha = [x] := by
  have e : pend N [x] ha = [⟨(0, x), by simp, ha x List.mem_cons_self⟩] := rfl
  unfold keptOf
  rw [e]
  cases h : K 0
  · left
    simp [h]
  · right
    simp [h]
theorem kept_nil {K : Nat → Bool} {N : Nat} (ha : ∀ y ∈ ([] : List Wq), y.1 < N ∧ y.2.length = 64) : keptOf K [] ha = [] := rfl
theorem Holds.half {S : List Sec} {after : Nat} {bs : List (List UInt8)} (H : Holds S after bs) (b : List UInt8) (hb : b.length ≤ 1048576) (hfit : usedS bs + secs b.length ≤ S.length) (hlow : after + bs.length + 1 ≤ 1152921504606846975) {S' : List Sec} {ws : List Wq} (hh : Half S (usedS bs) (after + bs.length + 1) b S' ws) {N : Nat} (K : Nat → Bool) (ha : ∀ x ∈ ws, x.1 < N ∧ x.2.length = 64) :
    Holds (doneS S' (keptOf K ws ha)) after bs ∨ Holds (doneS S' (keptOf K ws ha)) after (bs ++ [b]) := by
  have hpl : (packed b).length + 1 = secs b.length := by rw [packed_len]; unfold secs; omega
  have hmess : Holds (putS S (usedS bs + 1) (packed b)) after bs := by
    refine H.mess _ ?_ ?_ (putS_64 H.s64 (packed_64 b))
    · unfold putS
      rw [List.append_assoc, List.take_append_of_le_length (by rw [List.length_take]; omega), List.take_take, Nat.min_eq_left (by omega)]
    · intro s hs
      rcases List.mem_append.1 hs with h | h
      · rcases List.mem_append.1 h with h | h
        · exact H.old s (List.mem_of_mem_take h)
        · exact old_packed _ b s h
      · exact H.old s (List.mem_of_mem_drop h)
  rcases hh with ⟨rfl, rfl | rfl⟩ | ⟨rfl, rfl | rfl⟩
  · exact .inl H
  · left
    have h := done_mess (usedS bs) (after + bs.length) (keptOf K _ ha) S' (fun x hx => by
      obtain ⟨i, hi, rfl⟩ := List.mem_mapIdx.1 (kept_mem hx)
      exact ⟨by show _ ≤ usedS bs + 1 + i; omega, old_packed _ b _ (List.getElem_mem hi), packed_64 b _ (List.getElem_mem hi)⟩) H.old H.s64
    exact H.mess _ h.1 h.2.1 h.2.2
  · exact .inl hmess
  · rcases kept_one (K := K) ha with h | h
    · rw [h]
      exact .inl hmess
    · rw [h]
      right
      have e : doneS (putS S (usedS bs + 1) (packed b)) [(usedS bs, hdr (after + bs.length + 1) b)] = putS S (usedS bs) (hdr (after + bs.length + 1) b :: packed b) := by
        rw [← put_put S (packed b) _ _ (by omega)]
        have := done_put [hdr (after + bs.length + 1) b] (putS S (usedS bs + 1) (packed b)) (usedS bs) (by rw [putS_len (by omega)]; simp; omega)
        simpa using this
      rw [e]
      exact H.put b hb hlow
end Go.Proofs.Ytnnpfehfoaojfaa
