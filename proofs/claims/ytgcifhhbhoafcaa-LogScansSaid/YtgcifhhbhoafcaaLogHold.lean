/-
  What a region holds: records, and nothing newer behind them. Plain.
-/
import Derived.Test.YtgcifhhbhoafcaaLogReplay
namespace Go.Proofs.Ytgcifhhbhoafcaa
open Go.RowKit Go.Shelf

/-- The records of bodies, one behind the other. -/
def recs : Nat → List (List UInt8) → List Sec
  | _, [] => []
  | after, b :: bs => hdr (after + 1) b :: (packed b ++ recs (after + 1) bs)
theorem recs_len : ∀ (after : Nat) (bs : List (List UInt8)), (recs after bs).length = usedS bs
  | _, [] => rfl
  | after, b :: bs => by
    have : usedS (b :: bs) = secs b.length + usedS bs := by simp [usedS]
    rw [recs, List.length_cons, List.length_append, recs_len (after + 1) bs, packed_len, this]
    unfold secs
    omega
theorem recs_snoc : ∀ (after : Nat) (bs : List (List UInt8)) (b : List UInt8), recs after (bs ++ [b]) = recs after bs ++ (hdr (after + bs.length + 1) b :: packed b)
  | after, [], b => by simp [recs]
  | after, x :: bs, b => by
    rw [List.cons_append, recs, recs_snoc (after + 1) bs b, recs]
    simp only [List.cons_append, List.append_assoc, List.length_cons]
    rw [show after + 1 + bs.length + 1 = after + (bs.length + 1) + 1 by omega]
theorem recs_64 : ∀ (after : Nat) (bs : List (List UInt8)), ∀ s ∈ recs after bs, s.length = 64
  | _, [], s, h => by simp [recs] at h
  | after, b :: bs, s, h => by
    rcases List.mem_cons.1 h with h | h
    · rw [h, hdr_len]
    · rcases List.mem_append.1 h with h | h
      · exact packed_64 b s h
      · exact recs_64 (after + 1) bs s h
/-- The scan over records. -/
theorem scan_recs : ∀ (bs : List (List UInt8)) (fuel after : Nat) (T : List Sec), bs.length ≤ fuel → after + bs.length ≤ 1152921504606846975 → (∀ b ∈ bs, b.length ≤ 1048576) → scan fuel (recs after bs ++ T) after = bs ++ scan (fuel - bs.length) T (after + bs.length)
  | [], fuel, after, T, _, _, _ => by simp [recs]
  | b :: bs, fuel, after, T, hf, ha, hb => by
    obtain ⟨f', rfl⟩ : ∃ f', fuel = f' + 1 := ⟨fuel - 1, by simp at hf; omega⟩
    have hbl := hb b List.mem_cons_self
    simp only [List.length_cons] at hf ha
    rw [scan, if_pos (by omega), recs, List.cons_append, List.append_assoc, rdRec_written (after + 1) b _ hbl]
    show b :: scan f' ((hdr (after + 1) b :: (packed b ++ (recs (after + 1) bs ++ T))).drop (secs b.length)) (after + 1) = _
    have e : (hdr (after + 1) b :: (packed b ++ (recs (after + 1) bs ++ T))).drop (secs b.length) = recs (after + 1) bs ++ T := by
      have : secs b.length = (packed b).length + 1 := by rw [packed_len]; unfold secs; omega
      rw [this, List.drop_succ_cons, List.drop_left]
    rw [e, scan_recs bs f' (after + 1) T (by omega) (by omega) (fun x hx => hb x (List.mem_cons_of_mem _ hx)), List.length_cons, List.cons_append, show after + 1 + bs.length = after + (bs.length + 1) by omega, show f' + 1 - (bs.length + 1) = f' - bs.length by omega]

/-- No header of a stamp behind l. -/
def Old (l : Nat) (s : Sec) : Prop := ∀ m b, l < m → m ≤ 1152921504606846976 → s ≠ hdr m b
theorem Old.mono {l l' : Nat} {s : Sec} (h : Old l s) (hl : l ≤ l') : Old l' s := fun m b hm hx => h m b (by omega) hx
theorem hdr_inj {m m' : Nat} {b b' : List UInt8} (hm : m ≤ 1152921504606846976) (hm' : m' ≤ 1152921504606846976) (h : hdr m b = hdr m' b') : m = m' := by
  unfold hdr at h
  rw [List.cons.injEq, List.append_assoc, List.append_assoc, List.append_assoc, List.append_assoc] at h
  have h1 := (List.append_inj h.2 (by rw [be_len, be_len])).1
  have h2 := congrArg num h1
  rw [num_be, num_be, Nat.mod_eq_of_lt (by omega), Nat.mod_eq_of_lt (by omega)] at h2
  exact h2
theorem old_hdr {l m : Nat} {b : List UInt8} (hm : m ≤ l) (hl : l ≤ 1152921504606846976) : Old l (hdr m b) := fun m' b' h h2 e => by
  have := hdr_inj (Nat.le_trans hm hl) h2 e
  omega
theorem old_body (l : Nat) (body : List UInt8) (k : Nat) : Old l (bodyS body k) := fun m b _ _ e => by
  unfold bodyS hdr at e
  rw [List.cons.injEq] at e
  exact absurd e.1 (by decide)
theorem old_packed (l : Nat) (body : List UInt8) : ∀ s ∈ packed body, Old l s := fun s hs => by
  obtain ⟨k, _, rfl⟩ := List.mem_map.1 hs
  exact old_body l body k
theorem old_zero (l n : Nat) : ∀ s ∈ zeroS n, Old l s := fun s hs m b _ _ e => by
  rw [List.eq_of_mem_replicate hs] at e
  unfold hdr at e
  rw [show List.replicate 64 (0 : UInt8) = 0 :: List.replicate 63 0 from rfl, List.cons.injEq] at e
  exact absurd e.1 (by decide)
theorem old_recs : ∀ (bs : List (List UInt8)) (after l : Nat), after + bs.length ≤ l → l ≤ 1152921504606846976 → ∀ s ∈ recs after bs, Old l s
  | [], _, _, _, _, s, h => by simp [recs] at h
  | b :: bs, after, l, hl, hx, s, h => by
    simp only [List.length_cons] at hl
    rcases List.mem_cons.1 h with h | h
    · rw [h]
      exact old_hdr (by omega) hx
    · rcases List.mem_append.1 h with h | h
      · exact old_packed l b s h
      · exact old_recs bs (after + 1) l (by omega) hx s h
theorem scan_old {l : Nat} {T : List Sec} (h : ∀ s ∈ T, Old l s) (h64 : ∀ s ∈ T, s.length = 64) (hl : l ≤ 1152921504606846975) (fuel : Nat) : scan fuel T l = [] := by
  cases fuel with
  | zero => rfl
  | succ fuel =>
    rw [scan]
    split
    · rcases hr : rdRec T (l + 1) with _ | b
      · rfl
      · obtain ⟨_, more, e⟩ := rdRec_some h64 hr
        exact absurd rfl (h (hdr (l + 1) b) (by rw [e]; exact List.mem_cons_self) (l + 1) b (by omega) (by omega))
    · rfl

/-- A region holds these records, behind them and elsewhere nothing newer. -/
structure Holds (S : List Sec) (after : Nat) (bs : List (List UInt8)) : Prop where
  split : ∃ T, S = recs after bs ++ T
  old : ∀ s ∈ S, Old (after + bs.length) s
  s64 : ∀ s ∈ S, s.length = 64
  small : ∀ b ∈ bs, b.length ≤ 1048576
  low : after + bs.length ≤ 1152921504606846975
theorem Holds.fit {S : List Sec} {after : Nat} {bs : List (List UInt8)} (H : Holds S after bs) : usedS bs ≤ S.length := by
  obtain ⟨T, e⟩ := H.split
  rw [e, List.length_append, recs_len]
  omega
theorem usedS_len : ∀ bs : List (List UInt8), bs.length ≤ usedS bs
  | [] => Nat.le_refl _
  | b :: bs => by
    have h1 : usedS (b :: bs) = secs b.length + usedS bs := by simp [usedS]
    have h2 := usedS_len bs
    have h3 := secs_pos b.length
    rw [h1, List.length_cons]
    omega
theorem Holds.scan {S : List Sec} {after : Nat} {bs : List (List UInt8)} (H : Holds S after bs) : scan (S.length + 1) S after = bs := by
  obtain ⟨T, e⟩ := H.split
  have h1 := H.fit
  have h2 := usedS_len bs
  have h3 := scan_recs bs (S.length + 1) after T (by omega) H.low H.small
  rw [← e] at h3
  rw [h3, scan_old (fun s hs => H.old s (by rw [e]; exact List.mem_append_right _ hs)) (fun s hs => H.s64 s (by rw [e]; exact List.mem_append_right _ hs)) H.low, List.append_nil]
theorem Holds.zero (n after : Nat) (h : after ≤ 1152921504606846975) : Holds (zeroS n) after [] :=
  ⟨⟨zeroS n, rfl⟩, old_zero _ n, fun s hs => by rw [List.eq_of_mem_replicate hs, List.length_replicate], fun b hb => by simp at hb, by simpa using h⟩
theorem Holds.reset {S : List Sec} {after : Nat} {bs : List (List UInt8)} (H : Holds S after bs) (l : Nat) (hl : after + bs.length ≤ l) (hm : l ≤ 1152921504606846975) : Holds S l [] :=
  ⟨⟨S, rfl⟩, fun s hs => (H.old s hs).mono (by simpa using hl), H.s64, fun b hb => by simp at hb, by simpa using hm⟩
/-- A record put behind the others. -/
theorem Holds.put {S : List Sec} {after : Nat} {bs : List (List UInt8)} (H : Holds S after bs) (b : List UInt8) (hb : b.length ≤ 1048576) (hlow : after + bs.length + 1 ≤ 1152921504606846975) : Holds (putS S (usedS bs) (hdr (after + bs.length + 1) b :: packed b)) after (bs ++ [b]) := by
  obtain ⟨T, e⟩ := H.split
  have hl := recs_len after bs
  have hX : (hdr (after + bs.length + 1) b :: packed b).length = secs b.length := by rw [List.length_cons, packed_len]; unfold secs; omega
  have ep : putS S (usedS bs) (hdr (after + bs.length + 1) b :: packed b) = recs after (bs ++ [b]) ++ S.drop (usedS bs + secs b.length) := by
    unfold putS
    rw [hX, recs_snoc]
    congr 2
    rw [e, ← hl, List.take_left]
  refine ⟨⟨_, ep⟩, ?_, ?_, ?_, ?_⟩
  · intro s hs
    rw [ep] at hs
    rcases List.mem_append.1 hs with h | h
    · exact old_recs (bs ++ [b]) after _ (Nat.le_refl _) (by simp; omega) s h
    · exact (H.old s (List.mem_of_mem_drop h)).mono (by simp)
  · exact putS_64 H.s64 (fun s hs => by
      rcases List.mem_cons.1 hs with h | h
      · rw [h, hdr_len]
      · exact packed_64 b s h)
  · intro x hx
    rcases List.mem_append.1 hx with h | h
    · exact H.small x h
    · rw [List.mem_singleton.1 h]
      exact hb
  · simp
    omega
/-- Body sectors, or what is no newer, put behind the records. -/
theorem Holds.mess {S : List Sec} {after : Nat} {bs : List (List UInt8)} (H : Holds S after bs) (S' : List Sec) (h1 : S'.take (usedS bs) = S.take (usedS bs)) (hold : ∀ s ∈ S', Old (after + bs.length) s) (h64 : ∀ s ∈ S', s.length = 64) : Holds S' after bs := by
  obtain ⟨T, e⟩ := H.split
  refine ⟨⟨S'.drop (usedS bs), ?_⟩, hold, h64, H.small, H.low⟩
  have h2 : S.take (usedS bs) = recs after bs := by rw [e, ← recs_len after bs, List.take_left]
  rw [← h2, ← h1, List.take_append_drop]
end Go.Proofs.Ytgcifhhbhoafcaa
