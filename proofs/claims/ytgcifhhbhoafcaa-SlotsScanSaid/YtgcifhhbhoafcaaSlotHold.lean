/-
  What a region of two slots holds, behind saves, power failures and crashes. Plain.
-/
import Derived.Test.YtgcifhhbhoafcaaSlotSave
namespace Go.Proofs.Ytgcifhhbhoafcaa
open Go.RowKit Go.Shelf

theorem put_at {S X : List Sec} {a : Nat} (h : a + X.length ≤ S.length) (i : Nat) : (putS S a X)[i]? = if a ≤ i ∧ i < a + X.length then X[i - a]? else S[i]? := by
  unfold putS
  have ht : (S.take a).length = a := by rw [List.length_take]; omega
  by_cases h1 : i < a
  · rw [if_neg (by omega), List.append_assoc, List.getElem?_append_left (by omega), List.getElem?_take_of_lt h1]
  · by_cases h2 : i < a + X.length
    · rw [if_pos ⟨by omega, h2⟩, List.append_assoc, List.getElem?_append_right (by omega), ht, List.getElem?_append_left (by omega)]
    · rw [if_neg (by omega), List.getElem?_append_right (by rw [List.length_append]; omega), List.length_append, ht, List.getElem?_drop]
      congr 1
      omega
theorem done_other (i : Nat) : ∀ (L : List Wq) (S : List Sec), (∀ x ∈ L, x.1 ≠ i) → (doneS S L)[i]? = S[i]?
  | [], _, _ => rfl
  | x :: L, S, h => by
    show (doneS (S.set x.1 x.2) L)[i]? = _
    rw [done_other i L _ (fun y hy => h y (List.mem_cons_of_mem _ hy)), List.getElem?_set_ne (h x List.mem_cons_self)]
/-- The header of slot k. -/
def hdAt (m : Nat) (S : List Sec) (k : Nat) : Sec := S.getD (k * m) []
/-- Whatever stands behind this header, no checkpoint of this generation or a later one. -/
def OldH (m k : Nat) (h : Sec) (g : Nat) : Prop := ∀ data x, chkB k h data m = some x → x.g < g
theorem sl_split {m : Nat} {S : List Sec} (hl : S.length = 2 * m) (hm : 1 ≤ m) (k : Nat) (hk : k < 2) : ∃ rest, sl m S k = hdAt m S k :: rest ∧ rest.length + 1 = m := by
  have hkm : k * m + m ≤ S.length := by
    match k, hk with
    | 0, _ => omega
    | 1, _ => omega
  have e : sl m S k = S[k * m] :: (S.drop (k * m + 1)).take (m - 1) := by
    unfold sl
    rw [List.drop_eq_getElem_cons (by omega)]
    obtain ⟨m', rfl⟩ : ∃ m', m = m' + 1 := ⟨m - 1, by omega⟩
    rw [List.take_succ_cons]
    rfl
  refine ⟨_, by rw [e]; unfold hdAt; rw [List.getD_eq_getElem?_getD, List.getElem?_eq_getElem (by omega)]; rfl, ?_⟩
  rw [List.length_take, List.length_drop]
  omega
theorem chk_sl {m : Nat} {S : List Sec} (hl : S.length = 2 * m) (hm : 1 ≤ m) (k : Nat) (hk : k < 2) : ∃ data, chk k (sl m S k) = chkB k (hdAt m S k) data m := by
  obtain ⟨rest, e, hr⟩ := sl_split hl hm k hk
  exact ⟨rest.flatten, by rw [e, ← hr]; rfl⟩
/-- A region of two slots holds this checkpoint, of generation g. -/
structure SHold (m : Nat) (S : List Sec) (g : Nat) (c : Option Ck) : Prop where
  len : S.length = 2 * m
  s64 : ∀ s ∈ S, s.length = 64
  now : (c = none ∧ g = 0 ∧ OldH m 0 (hdAt m S 0) 0) ∨ (∃ ck, c = some ck ∧ ck.g = g ∧ 1 ≤ g ∧ chk (g % 2) (sl m S (g % 2)) = some ck)
  old : OldH m ((g + 1) % 2) (hdAt m S ((g + 1) % 2)) g
theorem SHold.gen {m : Nat} {S : List Sec} {g : Nat} {c : Option Ck} (H : SHold m S g c) : genOf c = g := by
  rcases H.now with ⟨rfl, rfl, _⟩ | ⟨ck, rfl, h, _⟩
  · rfl
  · exact h
theorem SHold.isCur {m : Nat} {S : List Sec} {g : Nat} {c : Option Ck} (hm : 1 ≤ m) (H : SHold m S g c) : cur m S = c := by
  have e0 : S.take m = sl m S 0 := by unfold sl; rw [Nat.zero_mul, List.drop_zero]
  have e1 : (S.drop m).take m = sl m S 1 := by unfold sl; rw [Nat.one_mul]
  unfold cur
  rw [e0, e1]
  have hold := H.old
  rcases H.now with ⟨rfl, rfl, h0⟩ | ⟨ck, rfl, hg, h1, hc⟩
  · obtain ⟨d0, q0⟩ := chk_sl H.len hm 0 (by omega)
    obtain ⟨d1, q1⟩ := chk_sl H.len hm 1 (by omega)
    have n0 : chk 0 (sl m S 0) = none := by
      rw [q0]
      cases hx : chkB 0 (hdAt m S 0) d0 m with
      | none => rfl
      | some x => exact absurd (h0 d0 x hx) (by omega)
    have n1 : chk 1 (sl m S 1) = none := by
      rw [q1]
      cases hx : chkB 1 (hdAt m S 1) d1 m with
      | none => rfl
      | some x => exact absurd (hold d1 x hx) (by omega)
    rw [n0, n1]
    rfl
  · have hk : (g + 1) % 2 < 2 := by omega
    obtain ⟨d, q⟩ := chk_sl H.len hm ((g + 1) % 2) hk
    by_cases hp : g % 2 = 0
    · have hp1 : (g + 1) % 2 = 1 := by omega
      rw [hp] at hc
      rw [hp1] at q hold
      rw [hc]
      cases hx : chk 1 (sl m S 1) with
      | none => rfl
      | some y =>
        have := hold d y (by rw [← q]; exact hx)
        show (if ck.g < y.g then some y else some ck) = _
        rw [if_neg (by omega)]
    · have hp0 : g % 2 = 1 := by omega
      have hp1 : (g + 1) % 2 = 0 := by omega
      rw [hp0] at hc
      rw [hp1] at q hold
      rw [hc]
      cases hx : chk 0 (sl m S 0) with
      | none => rfl
      | some y =>
        have := hold d y (by rw [← q]; exact hx)
        show (if y.g < ck.g then some ck else some y) = _
        rw [if_pos (by omega)]
theorem SHold.zero (m : Nat) (hm : 1 ≤ m) : SHold m (zeroS (2 * m)) 0 none := by
  have hh : ∀ k, k < 2 → hdAt m (zeroS (2 * m)) k = List.replicate 64 0 := fun k hk => by
    have hkm : k * m < 2 * m := by
      match k, hk with
      | 0, _ => omega
      | 1, _ => omega
    unfold hdAt zeroS
    rw [List.getD_eq_getElem?_getD, List.getElem?_replicate, if_pos hkm]
    rfl
  have hn : ∀ k g, k < 2 → OldH m k (hdAt m (zeroS (2 * m)) k) g := fun k g hk data x hx => by
    rw [hh k hk] at hx
    unfold chkB at hx
    have : hG (List.replicate 64 0) = 0 := by decide
    rw [if_neg (by rw [this]; omega)] at hx
    cases hx
  refine ⟨by simp [zeroS], fun s hs => by rw [List.eq_of_mem_replicate hs, List.length_replicate], .inl ⟨rfl, rfl, hn 0 0 (by omega)⟩, hn _ _ (by omega)⟩
theorem sl_same {m k : Nat} {S S' : List Sec} (h : ∀ i, k * m ≤ i → i < k * m + m → S'[i]? = S[i]?) : sl m S' k = sl m S k := by
  unfold sl
  apply List.ext_getElem?
  intro j
  rw [List.getElem?_take, List.getElem?_take]
  split
  · rw [List.getElem?_drop, List.getElem?_drop, h _ (by omega) (by omega)]
  · rfl
theorem hdAt_same {m k : Nat} {S S' : List Sec} (h : S'[k * m]? = S[k * m]?) : hdAt m S' k = hdAt m S k := by
  unfold hdAt
  rw [List.getD_eq_getElem?_getD, List.getD_eq_getElem?_getD, h]
/-- Only body sectors of the other slot differ. -/
theorem SHold.mess {m : Nat} {S S' : List Sec} {g : Nat} {c : Option Ck} (hm : 1 ≤ m) (H : SHold m S g c) (hl : S'.length = 2 * m) (h64 : ∀ s ∈ S', s.length = 64) (h : ∀ i, ¬ ((g + 1) % 2 * m < i ∧ i < (g + 1) % 2 * m + m) → S'[i]? = S[i]?) : SHold m S' g c := by
  have hk2 : g % 2 < 2 := by omega
  have hother : ∀ i, g % 2 * m ≤ i → i < g % 2 * m + m → S'[i]? = S[i]? := fun i h1 h2 => h i (by
    by_cases hp : g % 2 = 0
    · rw [hp] at h1 h2
      rw [show (g + 1) % 2 = 1 by omega]
      omega
    · rw [show g % 2 = 1 by omega] at h1 h2
      rw [show (g + 1) % 2 = 0 by omega]
      omega)
  refine ⟨hl, h64, ?_, ?_⟩
  · rcases H.now with ⟨hc, rfl, h0⟩ | ⟨ck, hc, hg, h1, hq⟩
    · exact .inl ⟨hc, rfl, by rw [hdAt_same (h (0 * m) (by omega))]; exact h0⟩
    · exact .inr ⟨ck, hc, hg, h1, by rw [sl_same hother]; exact hq⟩
  · rw [hdAt_same (h _ (by omega))]
    exact H.old
/-- A checkpoint put in the other slot. -/
theorem SHold.put {m : Nat} {S : List Sec} {g : Nat} {c : Option Ck} (hm : 1 ≤ m) (H : SHold m S g c) (st : Nat) (body : List UInt8) (hst : st ≤ 1152921504606846975) (hb : body.length ≤ roomS m) (hg : g + 1 < 9223372036854775808) : SHold m (putS S ((g + 1) % 2 * m) (hdrS (g + 1) st body :: padS body)) (g + 1) (some ⟨g + 1, st, body⟩) := by
  have hX : (hdrS (g + 1) st body :: padS body).length ≤ m := by
    rw [List.length_cons, padS_len]
    unfold roomS at hb
    omega
  obtain ⟨k, hk⟩ : ∃ k, k = (g + 1) % 2 := ⟨_, rfl⟩
  have hk2 : k < 2 := by omega
  have hkm : k * m + m ≤ S.length := by
    rw [H.len]
    match k, hk2 with
    | 0, _ => omega
    | 1, _ => omega
  rw [← hk]
  have hle : k * m + (hdrS (g + 1) st body :: padS body).length ≤ S.length := by omega
  have hl' := putS_len hle
  have h64' : ∀ s ∈ putS S (k * m) (hdrS (g + 1) st body :: padS body), s.length = 64 := putS_64 H.s64 (fun s hs => by
    rcases List.mem_cons.1 hs with h | h
    · rw [h, hdrS_len]
    · exact padS_64 body s h)
  have hpa := fun i => put_at hle i
  refine ⟨by rw [hl', H.len], h64', .inr ⟨_, rfl, rfl, by omega, ?_⟩, ?_⟩
  · rw [← hk]
    obtain ⟨rest, hr⟩ : ∃ rest, sl m (putS S (k * m) (hdrS (g + 1) st body :: padS body)) k = hdrS (g + 1) st body :: (padS body ++ rest) := by
      refine ⟨((S.drop (k * m + (hdrS (g + 1) st body :: padS body).length))).take (m - (hdrS (g + 1) st body :: padS body).length), ?_⟩
      unfold sl putS
      rw [List.append_assoc, List.drop_append, List.drop_eq_nil_of_le (by rw [List.length_take]; omega), List.nil_append, List.length_take, Nat.min_eq_left (by omega), Nat.sub_self, List.drop_zero, List.take_append, List.take_of_length_le hX]
      rfl
    have hlr : (padS body ++ rest).length + 1 = m := by
      have h1 := congrArg List.length hr
      unfold sl at h1
      rw [List.length_take, List.length_drop, hl', List.length_cons] at h1
      omega
    have hw := chk_written (g + 1) st body (padS body ++ rest) (by omega) hg hst (by rw [hlr]; exact hb) (by
      rw [List.flatten_append, List.take_append_of_le_length ?_, pad_take]
      rw [flat_64 _ (padS_64 body), padS_len]
      omega)
    rw [hr, hk]
    exact hw
  · have hk' : (g + 1 + 1) % 2 = g % 2 := by omega
    rw [hk']
    have hsame : hdAt m (putS S (k * m) (hdrS (g + 1) st body :: padS body)) (g % 2) = hdAt m S (g % 2) := hdAt_same (by
      rw [hpa, if_neg ?_]
      by_cases hp : g % 2 = 0
      · rw [hp, show k = 1 by omega]
        omega
      · rw [show g % 2 = 1 by omega, show k = 0 by omega]
        omega)
    rw [hsame]
    intro data x hx
    rcases H.now with ⟨_, rfl, h0⟩ | ⟨ck, _, hg', _, hq⟩
    · exact absurd (h0 data x hx) (by omega)
    · obtain ⟨d, q⟩ := chk_sl H.len hm (g % 2) (by omega)
      have hgx : ∀ {data : List UInt8} {x : Ck}, chkB (g % 2) (hdAt m S (g % 2)) data m = some x → x.g = hG (hdAt m S (g % 2)) := fun {data x} hx => by
        unfold chkB at hx
        split at hx
        · cases hx
          rfl
        · cases hx
      rw [q] at hq
      have e1 := hgx hq
      have e2 := hgx hx
      omega
theorem kept_mem {K : Nat → Bool} {N : Nat} {ws : List Wq} {ha : ∀ x ∈ ws, x.1 < N ∧ x.2.length = 64} {x : Wq} (h : x ∈ keptOf K ws ha) : x ∈ ws := by
  unfold keptOf pend at h
  obtain ⟨y, hy, rfl⟩ := List.mem_map.1 h
  obtain ⟨j, _, rfl⟩ := List.mem_map.1 (List.mem_filter.1 hy).1
  exact List.getElem_mem j.2
theorem kept_one {K : Nat → Bool} {N : Nat} {x : Wq} (ha : ∀ y ∈ [x], y.1 < N ∧ y.2.length = 64) : keptOf K [x] ha = [] ∨ keptOf K [x] ha = [x] := by
  have e : pend N [x] ha = [⟨(0, x), by simp, ha x List.mem_cons_self⟩] := rfl
  unfold keptOf
  rw [e]
  cases h : K 0
  · left
    simp [h]
  · right
    simp [h]
theorem kept_nil {K : Nat → Bool} {N : Nat} (ha : ∀ y ∈ ([] : List Wq), y.1 < N ∧ y.2.length = 64) : keptOf K [] ha = [] := rfl
/-- A power failure within a save, and a crash. -/
theorem SHold.half {m : Nat} {S : List Sec} {g : Nat} {c : Option Ck} (hm : 1 ≤ m) (H : SHold m S g c) (st : Nat) (body : List UInt8) (hst : st ≤ 1152921504606846975) (hb : body.length ≤ roomS m) (hg : g + 1 < 9223372036854775808) {S' : List Sec} {ws : List Wq} (hh : HalfS S ((g + 1) % 2 * m) (g + 1) st body S' ws) {N : Nat} (K : Nat → Bool) (ha : ∀ x ∈ ws, x.1 < N ∧ x.2.length = 64) :
    SHold m (doneS S' (keptOf K ws ha)) g c ∨ SHold m (doneS S' (keptOf K ws ha)) (g + 1) (some ⟨g + 1, st, body⟩) := by
  have hpl : (padS body).length + 1 ≤ m := by rw [padS_len]; unfold roomS at hb; omega
  obtain ⟨a, hka⟩ : ∃ a, a = (g + 1) % 2 * m := ⟨_, rfl⟩
  have ham : a + m ≤ 2 * m := by
    rw [hka]
    rcases Nat.mod_two_eq_zero_or_one (g + 1) with h | h <;> rw [h] <;> omega
  have hfit : a + 1 + (padS body).length ≤ S.length := by rw [H.len]; omega
  rw [← hka] at hh
  have hmess : SHold m (putS S (a + 1) (padS body)) g c := by
    refine H.mess hm (by rw [putS_len hfit, H.len]) (putS_64 H.s64 (padS_64 body)) (fun i hi => ?_)
    rw [put_at hfit, if_neg (by rw [← hka] at hi; omega)]
  rcases hh with ⟨rfl, rfl | rfl⟩ | ⟨rfl, rfl | rfl⟩
  · exact .inl H
  · left
    refine H.mess hm (by rw [doneS_len, H.len]) (doneS_64 H.s64 (fun x hx => (ha x (kept_mem hx)).2)) (fun i hi => ?_)
    refine done_other i _ _ (fun x hx e => ?_)
    obtain ⟨j, hj, rfl⟩ := List.mem_mapIdx.1 (kept_mem hx)
    rw [← hka] at hi
    have e' : a + 1 + j = i := e
    omega
  · exact .inl hmess
  · rcases kept_one (K := K) ha with h | h
    · rw [h]
      exact .inl hmess
    · rw [h]
      right
      have e : doneS (putS S (a + 1) (padS body)) [(a, hdrS (g + 1) st body)] = putS S a (hdrS (g + 1) st body :: padS body) := by
        rw [← sput_put S (padS body) _ _ (by omega)]
        have := done_put [hdrS (g + 1) st body] (putS S (a + 1) (padS body)) a (by rw [putS_len (by omega), H.len]; simp; omega)
        simpa using this
      rw [e, hka]
      exact H.put hm st body hst hb hg
end Go.Proofs.Ytgcifhhbhoafcaa
