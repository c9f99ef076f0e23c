/-
  A log in a script of acts: what it holds, what each act makes of it.
-/
import Derived.Test.YtnnpfehfoaojfaaLogSt
import Derived.Test.YtnnpfehfoaojfaaLogQuit
namespace Go.Proofs.Ytnnpfehfoaojfaa
open Go.RowKit Go.Shelf

def quiet (S : List Sec) (v : Value) (ws : List Wq) (after : Nat) (bs : List (List UInt8)) : Option (List UInt8) → Prop
  | none => ws = [] ∧ v = .slice none 0 0 ∧ Holds S after bs
  | some b => ∀ (K : Nat → Bool) (ha : ∀ x ∈ ws, x.1 < S.length ∧ x.2.length = 64), Holds (doneS S (keptOf K ws ha)) after bs ∨ Holds (doneS S (keptOf K ws ha)) after (bs ++ [b])
structure KLog (w wr : World) (P D g k after : Nat) (bs : List (List UInt8)) (ub : Option (List UInt8)) : Prop where
  ex : ∃ S v ws c, LogAt wr P D 0 k (usedS bs) (after + bs.length) ub.isSome ∧ DiskAt wr D g S v ws c ∧ (-9223372036854775808 ≤ c ∧ c ≤ 9223372036854775807) ∧ S.length = k ∧ usedS bs ≤ k ∧ (∀ b, v.ownBlock = some b → w.heap.size ≤ b) ∧ ws.length ≤ 100000 ∧ quiet S v ws after bs ub
  apart : D ≠ g ∧ P ≠ D ∧ P ≠ g
  base : w.heap.size ≤ P ∧ w.heap.size ≤ D ∧ w.heap.size ≤ g
  below : Below w.heap.size w wr
theorem KLog.lt {w wr : World} {P D g k after : Nat} {bs : List (List UInt8)} {ub : Option (List UInt8)} (H : KLog w wr P D g k after bs ub) : P < wr.heap.size ∧ D < wr.heap.size ∧ g < wr.heap.size := by
  obtain ⟨S, v, ws, c, hL, hD, _⟩ := H.ex
  exact ⟨hL.lt, (Array.getElem?_eq_some_iff.1 hD.box).1, (Array.getElem?_eq_some_iff.1 hD.dur).1⟩
theorem KLog.types {w wr : World} {P D g k after : Nat} {bs : List (List UInt8)} {ub : Option (List UInt8)} (H : KLog w wr P D g k after bs ub) {b : Nat} {c : Array Value} {t : TypeId} {fr : Nat × Nat} (hb : wr.heap[b]? = some (.cells c t fr)) (h1 : t ≠ 78) (h2 : t ≠ 64) (h3 : t ≠ 72) : ¬ (b = P ∨ b = D ∨ b = g) := by
  obtain ⟨S, v, ws, cc, hL, hD, _⟩ := H.ex
  rintro (e | e | e) <;> subst e
  · unfold LogAt at hL
    rw [hb] at hL
    simp only [Option.some.injEq, Obj.cells.injEq] at hL
    exact h1 hL.2.1
  · have hR := hD.box
    unfold Rec at hR
    rw [hb] at hR
    simp only [Option.some.injEq, Obj.cells.injEq] at hR
    exact h2 hR.2.1
  · have hR := hD.dur
    rw [hb] at hR
    simp only [Option.some.injEq, Obj.cells.injEq] at hR
    exact h3 hR.2.1
/-- Where nothing but rows of entries and new memory changes. -/
theorem KLog.chg {w wr w' : World} {P D g k after : Nat} {bs : List (List UInt8)} {ub : Option (List UInt8)} (H : KLog w wr P D g k after bs ub) {ex : Nat → Prop} (hc : Chg ex wr w') (hex : ∀ b, ex b → w.heap.size ≤ b ∧ ∃ c fr, wr.heap[b]? = some (.cells c 51 fr)) : KLog w w' P D g k after bs ub := by
  have hn : ∀ b, ex b → ¬ (b = P ∨ b = D ∨ b = g) := fun b hb => by
    obtain ⟨_, c, fr, h⟩ := hex b hb
    exact H.types h (by decide) (by decide) (by decide)
  obtain ⟨S, v, ws, c, hL, hD, h3, h4, h5, h6, h7, h8⟩ := H.ex
  refine ⟨⟨S, v, ws, c, hL.chg hc (fun e => hn _ e (.inl rfl)), hD.chg hc (fun e => hn _ e (.inr (.inl rfl))) (fun e => hn _ e (.inr (.inr rfl))) (fun b hb e => ?_), h3, h4, h5, h6, h7, h8⟩, H.apart, H.base, hc.on H.below H.below.size (fun b e => (hex b e).1)⟩
  obtain ⟨_, c2, fr, h⟩ := hex b e
  exact own_ne hD.row h (by decide) hb
theorem KLog.on {w wr w' : World} {P D g k after : Nat} {bs : List (List UInt8)} {ub : Option (List UInt8)} (H : KLog w wr P D g k after bs ub) (hb : Below wr.heap.size wr w') : KLog w w' P D g k after bs ub := H.chg (Chg.below hb (fun _ => False)) (fun _ e => e.elim)
theorem KLog.last {w wr : World} {P D g k after : Nat} {bs : List (List UInt8)} {ub : Option (List UInt8)} (H : KLog w wr P D g k after bs ub) :
    Calls Try.prog 16 #[.pointer (some ⟨P, 0, none⟩)] wr fun e w' => e = .returned (.int .i64 ((after + bs.length : Nat) : Int)) ∧ wr = w' := by
  obtain ⟨S, v, ws, c, hL, _⟩ := H.ex
  exact last_any P D 0 k (usedS bs) (after + bs.length) ub.isSome wr hL

theorem KLog.append {w wr : World} {P D g k after : Nat} {bs : List (List UInt8)} {ub : Option (List UInt8)} (H : KLog w wr P D g k after bs ub) (hsmall : after + bs.length < 1000000) (p : Option Addr) (cc : Nat) (body : List UInt8) (hbl : body.length ≤ 100000) (hcb : body.length ≤ cc) (hcc : cc ≤ 9223372036854775807) (hin : InAt wr p body) (hne : ∀ b o, p = some ⟨b, o, none⟩ → 0 < body.length → b ≠ D ∧ b ≠ g) :
    Calls Try.prog 18 #[.pointer (some ⟨P, 0, none⟩), .int .i64 (((after + bs.length : Nat) : Int) + 1), .slice p body.length cc] wr fun e w' => Chg (fun b => b = P ∨ b = D ∨ b = g) wr w' ∧
      ((e = .returned (.int .i64 0) ∧ ub = none ∧ KLog w w' P D g k after (bs ++ [body]) none)
      ∨ (e = .returned (.int .i64 22) ∧ KLog w w' P D g k after bs ub)
      ∨ (e = .returned (.int .i64 20) ∧ ub.isSome = true ∧ KLog w w' P D g k after bs ub)
      ∨ (e = .returned (.int .i64 20) ∧ ub = none ∧ KLog w w' P D g k after bs (some body))) := by
  obtain ⟨S, v, ws, c, hL, hD, hcl, hlen, hfit, hvb, hwl, hq⟩ := H.ex
  have hfew := hD.few
  cases ub with
  | some b =>
    refine (append_off P D 0 k _ _ _ p body.length cc wr hL).mono ?_
    rintro e w' ⟨rfl, rfl⟩
    exact ⟨Chg.refl _ _, .inr (.inr (.inl ⟨rfl, rfl, H⟩))⟩
  | none =>
    obtain ⟨rfl, rfl, hho⟩ := hq
    by_cases hf : usedS bs + secs body.length ≤ k
    · refine (append_fits P D 0 k _ _ g S c hcl (by omega) p cc body hbl hcb hcc hf (by omega) wr hin hne hL hD H.apart.1 H.apart.2.1 H.apart.2.2).mono ?_
      rintro e w' (⟨rfl, ⟨c', hd, _, hcl'⟩, hlg, hc⟩ | ⟨rfl, _, ⟨S', v', ws', hd, hh, hv'⟩, hlg, hc⟩)
      · rw [Nat.zero_add] at hd
        refine ⟨hc, .inl ⟨rfl, rfl, ⟨_, _, [], c', ?_, hd, hcl', ?_, ?_, fun b hb => (by cases hb), by simp, rfl, rfl, hho.put body (by omega) (by omega)⟩, H.apart, H.base, hc.on H.below H.below.size (fun b hb => ?_)⟩⟩
        · rw [usedS_snoc, List.length_append]
          exact hlg
        · rw [putS_len (by rw [List.length_cons, packed_len]; unfold secs at hf; omega), hlen]
        · rw [usedS_snoc]
          exact hf
        · have := H.base
          rcases hb with hb | hb | hb <;> omega
      · rw [Nat.zero_add] at hh
        have hS' : S'.length = k := by
          rcases hh with ⟨rfl, _⟩ | ⟨rfl, _⟩
          · exact hlen
          · rw [putS_len (by rw [packed_len]; unfold secs at hf; omega), hlen]
        have hpl : (packed body).length ≤ 65536 := by rw [packed_len]; unfold secs at hf; omega
        refine ⟨hc, .inr (.inr (.inr ⟨rfl, rfl, ⟨S', v', ws', 0, hlg, hd, by decide, hS', hfit, fun b hb => ?_, ?_, fun K ha => hho.half body (by omega) (by omega) (by omega) hh K ha⟩, H.apart, H.base, hc.on H.below H.below.size (fun b hb => ?_)⟩))⟩
        · have h1 := hv' b hb
          have h2 := H.below.size
          omega
        · rcases hh with ⟨_, rfl | rfl⟩ | ⟨_, rfl | rfl⟩ <;> simp
          omega
        · have := H.base
          rcases hb with hb | hb | hb <;> omega
    · refine (append_full P D 0 k _ _ (by omega) p body.length cc hbl hfit (by omega) (by omega) wr hL).mono ?_
      rintro e w' ⟨rfl, hb⟩
      exact ⟨Chg.below hb _, .inr (.inl ⟨rfl, H.on hb⟩)⟩
theorem KLog.reset {w wr : World} {P D g k after : Nat} {bs : List (List UInt8)} {ub : Option (List UInt8)} (H : KLog w wr P D g k after bs ub) (hsmall : after + bs.length < 1000000) :
    Calls Try.prog 19 #[.pointer (some ⟨P, 0, none⟩), .int .i64 ((after + bs.length : Nat) : Int)] wr fun e w' => Chg (fun b => b = P ∨ b = D ∨ b = g) wr w' ∧
      ((e = .returned (.int .i64 0) ∧ ub = none ∧ KLog w w' P D g k (after + bs.length) [] none) ∨ (e = .returned (.int .i64 20) ∧ ub.isSome = true ∧ wr = w')) := by
  obtain ⟨S, v, ws, c, hL, hD, hcl, hlen, hfit, hvb, hwl, hq⟩ := H.ex
  cases ub with
  | some b =>
    refine (reset_off P D 0 k _ _ _ wr hL).mono ?_
    rintro e w' ⟨rfl, rfl⟩
    exact ⟨Chg.refl _ _, .inr ⟨rfl, rfl, rfl⟩⟩
  | none =>
    obtain ⟨rfl, rfl, hho⟩ := hq
    refine (reset_on P D 0 k _ _ _ (Nat.le_refl _) (by omega) wr hL).mono ?_
    rintro e w' ⟨rfl, hlg, hc⟩
    have hap := H.apart
    refine ⟨hc.weaken (fun b _ e => .inl e), .inl ⟨rfl, rfl, ⟨S, _, [], c, hlg, hD.chg hc (fun e => hap.2.1 e.symm) (fun e => hap.2.2 e.symm) (fun b hb => by cases hb), hcl, hlen, Nat.zero_le _, hvb, hwl, rfl, rfl, hho.reset _ (Nat.le_refl _) (by omega)⟩, hap, H.base, hc.on H.below H.below.size (fun b e => by rw [e]; exact H.base.1)⟩⟩
theorem KLog.limit {w wr : World} {P D g k after : Nat} {bs : List (List UInt8)} {ub : Option (List UInt8)} (H : KLog w wr P D g k after bs ub) (m : Int) (hm : 0 ≤ m ∧ m ≤ 100) :
    Calls Try.prog 20 #[.pointer (some ⟨D, 0, none⟩), .int .i64 m] wr fun e w' => e = .returned (.tuple #[]) ∧ Chg (fun b => b = P ∨ b = D ∨ b = g) wr w' ∧ KLog w w' P D g k after bs ub := by
  obtain ⟨S, v, ws, c, hL, hD, hcl, hlen, hfit, hvb, hwl, hq⟩ := H.ex
  refine (limit_any D g S.length v c m wr hD.box).mono ?_
  rintro e w' ⟨rfl, rfl⟩
  split
  · exact ⟨rfl, Chg.refl _ _, H⟩
  · have hc := Chg.setCell wr ⟨D, 2, none⟩ (.int .i64 m)
    have hap := H.apart
    refine ⟨rfl, hc.weaken (fun b _ e => .inr (.inl e)), ⟨S, v, ws, m, hL.chg hc hap.2.1, ⟨rec_set2 hD.box m, hc.box hD.dur (fun e => hap.1 e.symm), hc.own hD.row (fun b hb e => ?_), hD.s64, hD.a64, hD.few⟩, by omega, hlen, hfit, hvb, hwl, hq⟩, hap, H.base, hc.on H.below H.below.size (fun b e => by rw [show b = D from e]; exact H.base.2.1)⟩
    have h1 := (hD.row.lt b hb).1
    have e' : b = D := e
    omega
/-- What a crash leaves. -/
theorem KLog.crash {w wr : World} {P D g k after : Nat} {bs : List (List UInt8)} {ub : Option (List UInt8)} (H : KLog w wr P D g k after bs ub) (p : Option Addr) (c : Nat) (ks : List Int) (hkl : ks.length ≤ 1000000) (hks : IntsAt wr p ks) :
    Calls Try.prog 21 #[.pointer (some ⟨D, 0, none⟩), .slice p ks.length c] wr fun e w' => (∃ n : Int, e = .returned (.int .i64 n)) ∧ Chg (fun b => b = P ∨ b = D ∨ b = g) wr w' ∧ Below w.heap.size w w' ∧
      ∃ S', DiskAt w' D g S' (.slice none 0 0) [] (-1) ∧ S'.length = k ∧ (Holds S' after bs ∨ ∃ b, ub = some b ∧ Holds S' after (bs ++ [b])) := by
  obtain ⟨S, v, ws, cc, hL, hD, hcl, hlen, hfit, hvb, hwl, hq⟩ := H.ex
  refine (crash_any D g S v ws (by omega) p c ks hkl cc wr hD H.apart.1 hks).mono ?_
  rintro e w' ⟨rfl, hd, hc⟩
  refine ⟨⟨_, rfl⟩, hc.weaken (fun b _ e => .inr e), hc.on H.below H.below.size (fun b hb => ?_), _, hd, by rw [doneS_len, hlen], ?_⟩
  · have := H.base
    rcases hb with hb | hb <;> omega
  · cases ub with
    | none =>
      obtain ⟨rfl, rfl, hho⟩ := hq
      exact .inl hho
    | some b =>
      rcases hq (isKept ks) hD.a64 with h | h
      · exact .inl h
      · exact .inr ⟨b, rfl, h⟩
/-- A log that is opened. -/
theorem KLog.opened {w w1 w2 : World} {P D g k after : Nat} {S : List Sec} {bs : List (List UInt8)} {v : Value} {E : List Ent} (hb1 : Below w.heap.size w w1) (hbase : w.heap.size ≤ D ∧ w.heap.size ≤ g) (hDg : D ≠ g) (hlen : S.length = k) (h64 : D < w1.heap.size ∧ g < w1.heap.size) (hP : w1.heap.size ≤ P) (hO : Opened w1 w2 P D 0 k S after v E) (hd : DiskAt w2 D g S (.slice none 0 0) [] (-1)) (hc : Chg (fun k => k = D) w1 w2) (hho : Holds S after bs) :
    E.map (·.body) = bs ∧ KLog w w2 P D g k after bs none := by
  have hbo : E.map (·.body) = bs := by
    have h := hho.scan
    rw [hlen] at h
    rw [hO.bodies, h]
  have hl := hO.log
  have hf := hO.fit
  have hEl : E.length = bs.length := by rw [← hbo, List.length_map]
  rw [hbo] at hl hf
  rw [hEl] at hl
  exact ⟨hbo, ⟨S, _, [], -1, hl, hd, by decide, hlen, hf, fun b hb => (by cases hb), by simp, rfl, rfl, hho⟩, ⟨hDg, by omega, by omega⟩, ⟨by have := hb1.size; omega, hbase.1, hbase.2⟩, hc.on hb1 hb1.size (fun b hb => by omega)⟩
end Go.Proofs.Ytnnpfehfoaojfaa
