/-
  Slots in a script of acts: what they hold, what each act makes of it.
-/
import Derived.Test.YtgcifhhbhoafcaaSlotAwake
namespace Go.Proofs.Ytgcifhhbhoafcaa
open Go.RowKit Go.Shelf

def squiet (m : Nat) (S : List Sec) (v : Value) (ws : List Wq) (gn : Nat) (c : Option Ck) : Option (Nat × List UInt8) → Prop
  | none => ws = [] ∧ v = .slice none 0 0 ∧ SHold m S gn c
  | some b => ∀ (K : Nat → Bool) (ha : ∀ x ∈ ws, x.1 < S.length ∧ x.2.length = 64), SHold m (doneS S (keptOf K ws ha)) gn c ∨ SHold m (doneS S (keptOf K ws ha)) (gn + 1) (some ⟨gn + 1, b.1, b.2⟩)
structure KSl (w wr : World) (P D g m gn : Nat) (c : Option Ck) (ub : Option (Nat × List UInt8)) : Prop where
  ex : ∃ S v ws lc, SlAt wr P D 0 m gn ub.isSome ∧ DiskAt wr D g S v ws lc ∧ (-9223372036854775808 ≤ lc ∧ lc ≤ 9223372036854775807) ∧ S.length = 2 * m ∧ (∀ b, v.ownBlock = some b → w.heap.size ≤ b) ∧ ws.length ≤ 100000 ∧ squiet m S v ws gn c ub
  apart : D ≠ g ∧ P ≠ D ∧ P ≠ g
  base : w.heap.size ≤ P ∧ w.heap.size ≤ D ∧ w.heap.size ≤ g
  below : Below w.heap.size w wr
theorem KSl.types {w wr : World} {P D g m gn : Nat} {c : Option Ck} {ub : Option (Nat × List UInt8)} (H : KSl w wr P D g m gn c ub) {b : Nat} {cs : Array Value} {t : TypeId} {fr : Nat × Nat} (hb : wr.heap[b]? = some (.cells cs t fr)) (h1 : t ≠ 97) (h2 : t ≠ 74) (h3 : t ≠ 82) : ¬ (b = P ∨ b = D ∨ b = g) := by
  obtain ⟨S, v, ws, cc, hL, hD, _⟩ := H.ex
  rintro (e | e | e) <;> subst e
  · unfold SlAt at hL
    rw [hb] at hL
    simp only [Option.some.injEq, Obj.cells.injEq] at hL
    exact h1 hL.2.1
  · have hR := hD.box
    unfold Rec at hR
    rw [hb] at hR
    simp only [Option.some.injEq, Obj.cells.injEq] at hR
    exact h2 hR.2.1
  · have hR := hD.dur
    rw [hb] at hR
    simp only [Option.some.injEq, Obj.cells.injEq] at hR
    exact h3 hR.2.1
/-- Where nothing but entries and new memory changes. -/
theorem KSl.chg {w wr w' : World} {P D g m gn : Nat} {c : Option Ck} {ub : Option (Nat × List UInt8)} (H : KSl w wr P D g m gn c ub) {ex : Nat → Prop} (hc : Chg ex wr w') (hex : ∀ b, ex b → w.heap.size ≤ b ∧ ∃ cs fr, wr.heap[b]? = some (.cells cs 48 fr)) : KSl w w' P D g m gn c ub := by
  have hn : ∀ b, ex b → ¬ (b = P ∨ b = D ∨ b = g) := fun b hb => by
    obtain ⟨_, cs, fr, h⟩ := hex b hb
    exact H.types h (by decide) (by decide) (by decide)
  obtain ⟨S, v, ws, lc, hL, hD, h3, h4, h6, h7, h8⟩ := H.ex
  refine ⟨⟨S, v, ws, lc, hL.chg hc (fun e => hn _ e (.inl rfl)), hD.chg hc (fun e => hn _ e (.inr (.inl rfl))) (fun e => hn _ e (.inr (.inr rfl))) (fun b hb e => ?_), h3, h4, h6, h7, h8⟩, H.apart, H.base, hc.on H.below H.below.size (fun b e => (hex b e).1)⟩
  obtain ⟨_, c2, fr, h⟩ := hex b e
  rcases hD.row.2 with ⟨hv, _⟩ | ⟨gr, cap, cu, hv, _, hg', _⟩
  · rw [hv] at hb
    cases hb
  · rw [hv] at hb
    cases hb
    rw [h] at hg'
    simp only [Option.some.injEq, Obj.cells.injEq] at hg'
    exact absurd hg'.2.1 (by decide)
theorem KSl.on {w wr w' : World} {P D g m gn : Nat} {c : Option Ck} {ub : Option (Nat × List UInt8)} (H : KSl w wr P D g m gn c ub) (hb : Below wr.heap.size wr w') : KSl w w' P D g m gn c ub := H.chg (Chg.below hb (fun _ => False)) (fun _ e => e.elim)

theorem KSl.save {w wr : World} {P D g m gn : Nat} {c : Option Ck} {ub : Option (Nat × List UInt8)} (H : KSl w wr P D g m gn c ub) (hm1 : 1 ≤ m) (hmb : m ≤ 60000) (hsmall : gn < 1000000) (z : Int) (p : Option Addr) (cc : Nat) (body : List UInt8) (hbl : body.length ≤ 100000) (hcb : body.length ≤ cc) (hcc : cc ≤ 9223372036854775807) (hin : InAt wr p body) (hne : ∀ b o, p = some ⟨b, o, none⟩ → 0 < body.length → b ≠ D ∧ b ≠ g) :
    Calls Try.prog 25 #[.pointer (some ⟨P, 0, none⟩), .agg #[.int .i64 z, .slice p body.length cc]] wr fun e w' => Chg (fun b => b = P ∨ b = D ∨ b = g) wr w' ∧
      ((e = .returned (.int .i64 0) ∧ ub = none ∧ ∃ st : Nat, z = (st : Int) ∧ KSl w w' P D g m (gn + 1) (some ⟨gn + 1, st, body⟩) none)
      ∨ (∃ ee : Int, e = .returned (.int .i64 ee) ∧ ee ≠ 0 ∧ ee ≠ 20 ∧ KSl w w' P D g m gn c ub)
      ∨ (e = .returned (.int .i64 20) ∧ ub.isSome = true ∧ KSl w w' P D g m gn c ub)
      ∨ (e = .returned (.int .i64 20) ∧ ub = none ∧ ∃ st : Nat, z = (st : Int) ∧ KSl w w' P D g m gn c (some (st, body)))) := by
  obtain ⟨S, v, ws, lc, hL, hD, hcl, hlen, hvb, hwl, hq⟩ := H.ex
  have hfew := hD.few
  cases ub with
  | some b =>
    refine (ssave_off P D 0 m gn z _ wr hL).mono ?_
    rintro e w' ⟨rfl, hb⟩
    exact ⟨Chg.below hb _, .inr (.inr (.inl ⟨rfl, rfl, H.on hb⟩))⟩
  | none =>
    obtain ⟨rfl, rfl, hho⟩ := hq
    cases hst : stampOk z with
    | false =>
      refine (ssave_arg P D 0 m gn z hst _ wr hL).mono ?_
      rintro e w' ⟨rfl, hb⟩
      exact ⟨Chg.below hb _, .inr (.inl ⟨2, rfl, by decide, by decide, H.on hb⟩)⟩
    | true =>
      have hz : 0 ≤ z ∧ z ≤ 1152921504606846975 := by
        unfold stampOk at hst
        simpa using hst
      obtain ⟨st, rfl⟩ : ∃ st : Nat, z = (st : Int) := ⟨z.toNat, by omega⟩
      by_cases hf : body.length ≤ roomS m
      · refine (ssave_fits P D 0 m gn ((gn + 1) % 2 * m) g S lc hcl hm1 (by omega) (by rw [Nat.zero_add]) st (by omega) p cc body (by omega) hcb hcc hf (by omega) wr hin hne hL hD H.apart.1 H.apart.2.1 H.apart.2.2).mono ?_
        have hpl : (padS body).length + 1 ≤ m := by rw [padS_len]; unfold roomS at hf; omega
        have ham : (gn + 1) % 2 * m + m ≤ 2 * m := by
          rcases Nat.mod_two_eq_zero_or_one (gn + 1) with h | h <;> rw [h] <;> omega
        rintro e w' (⟨rfl, ⟨c', hd, _, hcl'⟩, hlg, hc⟩ | ⟨rfl, _, ⟨S', v', ws', hd, hh, hv'⟩, hlg, hc⟩)
        · refine ⟨hc, .inl ⟨rfl, rfl, st, rfl, ⟨_, _, [], c', hlg, hd, hcl', ?_, fun b hb => (by cases hb), by simp, rfl, rfl, hho.put hm1 st body (by omega) hf (by omega)⟩, H.apart, H.base, hc.on H.below H.below.size (fun b hb => ?_)⟩⟩
          · rw [putS_len (by rw [List.length_cons]; omega), hlen]
          · have := H.base
            rcases hb with hb | hb | hb <;> omega
        · have hS' : S'.length = 2 * m := by
            rcases hh with ⟨rfl, _⟩ | ⟨rfl, _⟩
            · exact hlen
            · rw [putS_len (by omega), hlen]
          refine ⟨hc, .inr (.inr (.inr ⟨rfl, rfl, st, rfl, ⟨S', v', ws', 0, hlg, hd, by decide, hS', fun b hb => ?_, ?_, fun K ha => hho.half hm1 st body (by omega) hf (by omega) hh K ha⟩, H.apart, H.base, hc.on H.below H.below.size (fun b hb => ?_)⟩))⟩
          · have h1 := hv' b hb
            have h2 := H.below.size
            omega
          · rcases hh with ⟨_, rfl | rfl⟩ | ⟨_, rfl | rfl⟩ <;> simp
            omega
          · have := H.base
            rcases hb with hb | hb | hb <;> omega
      · refine (ssave_full P D 0 m gn hm1 (by omega) _ hst p body.length cc (by omega) wr hL).mono ?_
        rintro e w' ⟨rfl, hb⟩
        exact ⟨Chg.below hb _, .inr (.inl ⟨22, rfl, by decide, by decide, H.on hb⟩)⟩
theorem KSl.limit {w wr : World} {P D g m gn : Nat} {c : Option Ck} {ub : Option (Nat × List UInt8)} (H : KSl w wr P D g m gn c ub) (n : Int) (hn : 0 ≤ n ∧ n ≤ 100) :
    Calls Try.prog 26 #[.pointer (some ⟨D, 0, none⟩), .int .i64 n] wr fun e w' => e = .returned (.tuple #[]) ∧ Chg (fun b => b = P ∨ b = D ∨ b = g) wr w' ∧ KSl w w' P D g m gn c ub := by
  obtain ⟨S, v, ws, lc, hL, hD, hcl, hlen, hvb, hwl, hq⟩ := H.ex
  refine (limit_any D g S.length v lc n wr hD.box).mono ?_
  rintro e w' ⟨rfl, rfl⟩
  split
  · exact ⟨rfl, Chg.refl _ _, H⟩
  · have hc := Chg.setCell wr ⟨D, 2, none⟩ (.int .i64 n)
    have hap := H.apart
    refine ⟨rfl, hc.weaken (fun b _ e => .inr (.inl e)), ⟨S, v, ws, n, hL.chg hc hap.2.1, ⟨rec_set2 hD.box n, hc.box hD.dur (fun e => hap.1 e.symm), hc.own hD.row (fun b hb e => ?_), hD.s64, hD.a64, hD.few⟩, by omega, hlen, hvb, hwl, hq⟩, hap, H.base, hc.on H.below H.below.size (fun b e => by rw [show b = D from e]; exact H.base.2.1)⟩
    have h1 := (hD.row.lt b hb).1
    have e' : b = D := e
    omega
/-- What a crash leaves. -/
theorem KSl.crash {w wr : World} {P D g m gn : Nat} {c : Option Ck} {ub : Option (Nat × List UInt8)} (H : KSl w wr P D g m gn c ub) (p : Option Addr) (cc : Nat) (ks : List Int) (hkl : ks.length ≤ 1000000) (hks : IntsAt wr p ks) :
    Calls Try.prog 27 #[.pointer (some ⟨D, 0, none⟩), .slice p ks.length cc] wr fun e w' => (∃ n : Int, e = .returned (.int .i64 n)) ∧ Chg (fun b => b = P ∨ b = D ∨ b = g) wr w' ∧ Below w.heap.size w w' ∧
      ∃ S', DiskAt w' D g S' (.slice none 0 0) [] (-1) ∧ (SHold m S' gn c ∨ ∃ b, ub = some b ∧ SHold m S' (gn + 1) (some ⟨gn + 1, b.1, b.2⟩)) := by
  obtain ⟨S, v, ws, lc, hL, hD, hcl, hlen, hvb, hwl, hq⟩ := H.ex
  refine (crash_any D g S v ws (by omega) p cc ks hkl lc wr hD H.apart.1 hks).mono ?_
  rintro e w' ⟨rfl, hd, hc⟩
  refine ⟨⟨_, rfl⟩, hc.weaken (fun b _ e => .inr e), hc.on H.below H.below.size (fun b hb => ?_), _, hd, ?_⟩
  · have := H.base
    rcases hb with hb | hb <;> omega
  · cases ub with
    | none =>
      obtain ⟨rfl, rfl, hho⟩ := hq
      exact .inl hho
    | some b =>
      rcases hq (isKept ks) hD.a64 with h | h
      · exact .inl h
      · exact .inr ⟨b, rfl, h⟩
/-- Slots that are opened. -/
theorem KSl.opened {w w1 w2 : World} {P D g m gn : Nat} {S : List Sec} {c : Option Ck} (hb1 : Below w.heap.size w w1) (hbase : w.heap.size ≤ D ∧ w.heap.size ≤ g) (hDg : D ≠ g) (h64 : D < w1.heap.size ∧ g < w1.heap.size) (hP : w1.heap.size ≤ P) (hs : SlAt w2 P D 0 m gn false) (hd : DiskAt w2 D g S (.slice none 0 0) [] (-1)) (hc : Chg (fun k => k = D) w1 w2) (hho : SHold m S gn c) : KSl w w2 P D g m gn c none :=
  ⟨⟨S, _, [], -1, hs, hd, by decide, hho.len, fun b hb => (by cases hb), by simp, rfl, rfl, hho⟩, ⟨hDg, by omega, by omega⟩, ⟨by have := hb1.size; omega, hbase.1, hbase.2⟩, hc.on hb1 hb1.size (fun b hb => by omega)⟩
end Go.Proofs.Ytgcifhhbhoafcaa
