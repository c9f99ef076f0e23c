/-
  What the reference's Seal and crc.Open answer.
-/
import Derived.Test.YtehdbnjkgdfgbaaCrcSeal
namespace Go.Proofs.Ytehdbnjkgdfgbaa
open Go.RowKit

theorem cells_new (w : World) (cs : List Value) (T : TypeId) (j : Nat) (u : Value) (h : cs[j]? = some u) : (w.alloc (.cells cs.toArray T)).cell? (Addr.add ⟨w.heap.size, 0, none⟩ j) = some u := by
  rw [Go.WideShapes.add_plain, Nat.zero_add, Lib.cell_of_heap (heap_alloc_new _ _)]
  simpa using h

set_option maxHeartbeats 1000000 in
theorem refseal_any (l : List Nat) (ho : Crc.Octets l) (hl : l.length ≤ 1000000000) (p : Option Addr) (c : Nat) (w : World) (h : BytesIn w p c l) :
    Calls Try.prog 12 #[.slice p l.length c] w fun e w' => ∃ v', e = .returned v' ∧ w'.ownsRow w.heap.size 5 1 v' (l.length + 4) (bcells (l ++ Crc.le4 (Crc.crc l))) ∧ Below w.heap.size w w' := by
  obtain ⟨n, hn⟩ : ∃ n, n = l.length := ⟨_, rfl⟩
  have hsum := refsum_any l ho (by omega) p c w h.at_
  have HN := Lib.hid hn
  rw [← hn] at hl hsum ⊢
  clear hn
  have hcl := Crc.crc_lt l ho
  obtain ⟨S, hS⟩ : ∃ S, S = Crc.crc l := ⟨_, rfl⟩
  rw [← hS] at hcl hsum ⊢
  clear hS
  obtain ⟨x0, h0⟩ : ∃ x, x = S % 256 := ⟨_, rfl⟩
  obtain ⟨y1, h1⟩ : ∃ x, x = S / 256 := ⟨_, rfl⟩
  obtain ⟨y2, h2⟩ : ∃ x, x = S / 65536 := ⟨_, rfl⟩
  obtain ⟨x3, h3⟩ : ∃ x, x = S / 16777216 := ⟨_, rfl⟩
  obtain ⟨x1, k1⟩ : ∃ x, x = y1 % 256 := ⟨_, rfl⟩
  obtain ⟨x2, k2⟩ : ∃ x, x = y2 % 256 := ⟨_, rfl⟩
  have HX := Lib.hid (show Crc.le4 S = [x0, x1, x2, x3] by rw [h0, k1, k2, h3, h1, h2, ← Nat.mod_eq_of_lt (show S / 16777216 < 256 by omega)]; simp [Crc.le4])
  have g0 : (S : Int) % 256 = (x0 : Int) := by omega
  have g1 : (S : Int) / 256 = (y1 : Int) := by omega
  have g2 : (S : Int) / 65536 = (y2 : Int) := by omega
  have g3 : (S : Int) / 16777216 = (x3 : Int) := by omega
  have j1 : (y1 : Int) % 256 = (x1 : Int) := by omega
  have j2 : (y2 : Int) % 256 = (x2 : Int) := by omega
  have i0' : (x0 : Int) % 256 = (x0 : Int) := by omega
  have i1' : (x1 : Int) % 256 = (x1 : Int) := by omega
  have i2' : (x2 : Int) % 256 = (x2 : Int) := by omega
  have i3' : (x3 : Int) % 256 = (x3 : Int) := by omega
  clear h0 h1 h2 h3 k1 k2
  go_enter Try.func12, Try.ntmps12
  go_wp2_with fail
  refine hsum.mono ?_
  rintro e w1 ⟨rfl, rfl⟩
  clear hsum
  go_wp2_with (at_builtin; refine append_bytes rfl (.tmp 7) (.tmp 8) rfl w.heap.size _ _ _ rfl (World.ownsRow_made w #[] 0 (Nat.le_refl _) (Nat.zero_le _) rfl) p n c l rfl HN.out.symm (h.below ((Below.refl _ w).alloc (Nat.le_refl _) _)) (by omega) (by simp) ?_)
  intro v1 w1 hown hgrow hnil
  clear hnil
  have hb1 : Below w.heap.size w w1 := ((Below.refl _ w).alloc (Nat.le_refl _) _).grown hgrow (by simp) (by intro k hk; cases hk; exact Nat.le_refl _)
  have hs1 := hb1.size
  obtain ⟨i0, hi, hz0, hz1, hz2⟩ := info_parts info_u8
  clear hgrow
  go_wp2_with (at_builtin; refine wpList_append_own _ rfl (.tmp 10) (.tmp 25) 24 rfl w.heap.size 5 i0 (.int .u8 0) 1 1 Try.underlying24 hi hz0 hz1 hz2 rfl (by decide) _ _ _ rfl (hown.alloc _) ⟨w1.heap.size, 0, none⟩ 4 4 [.int .u8 x0, .int .u8 x1, .int .u8 x2, .int .u8 x3] rfl rfl (cells_new _ _ _) (by intro u hu; simp at hu; rcases hu with rfl | rfl | rfl | rfl <;> rfl) (by unfold maxLen; omega) (by omega) (by simp; omega) ?_)
  intro v2 w2 hown2 hgrow2 _
  have HO := Lib.hid (show w2.ownsRow w.heap.size 5 1 v2 (n + 4) (bcells (l ++ Crc.le4 S)) by rw [HX.out]; simpa [bcells] using hown2)
  have HB := (hb1.alloc hs1 _).grown hgrow2 (by simp; omega) (fun k hk => (hown.lt k hk).1)
  clear hown2 hgrow2 hown
  go_wp2
  go_ret
  exact ⟨_, rfl, HO.out, HB⟩

set_option maxHeartbeats 400000 in
theorem open_short (p : Option Addr) (n c : Nat) (hn : n < 4) (w : World) :
    Calls Try.prog 11 #[.slice p n c] w fun e w' => e = .returned (.tuple #[.slice none 0 0, .bool false]) ∧ w = w' := by
  have hd : decide ((n : Int) < 4) = true := decide_eq_true (by omega)
  go_enter Try.func11, Try.ntmps11
  go_wp2
  go_ret2
  exact ⟨rfl, rfl⟩

/-- A row that is not nil. -/
theorem owned_form {w : World} {base : Nat} {v : Value} {n : Nat} {xs : List Value} (h : w.ownsRow base 5 1 v n xs) (hv : v ≠ .slice none 0 0) : ∃ g cap, v = .slice (some ⟨g, 0, none⟩) n cap ∧ base ≤ g ∧ g < w.heap.size ∧ n ≤ cap := by
  rcases h.2 with ⟨h0, _⟩ | ⟨g, cap, cur, hv, hb, hg, hc, _⟩
  · exact absurd h0 hv
  · exact ⟨g, cap, hv, hb, Array.getElem?_eq_some_iff.1 hg |>.1, hc⟩

set_option maxHeartbeats 1000000 in
theorem open_long (l t : List Nat) (ho : Crc.Octets l) (hot : Crc.Octets t) (ht : t.length = 4) (hl : l.length ≤ 100000000) (b o c : Nat) (hc : l.length + 4 ≤ c) (w : World) (h : BytesIn w (some ⟨b, o, none⟩) c (l ++ t)) :
    Calls Try.prog 11 #[.slice (some ⟨b, o, none⟩) (l.length + 4) c] w fun e w' => Below w.heap.size w w' ∧
      ((t = Crc.le4 (Crc.crc l) ∧ ∃ v', e = .returned (.tuple #[v', .bool true]) ∧ w'.ownsRow w.heap.size 5 1 v' l.length (bcells l)) ∨ (t ≠ Crc.le4 (Crc.crc l) ∧ e = .returned (.tuple #[.slice none 0 0, .bool false]))) := by
  have hbody : BytesIn w (some ⟨b, o, none⟩) c l := ⟨fun h => (by cases h), fun h0 => ⟨b, o, rfl, fun i hi => by
    obtain ⟨b', o', hp', hcs⟩ := h.at_ (by simp; omega)
    cases hp'
    have := hcs i (by simp; omega)
    rwa [List.getD_eq_getElem?_getD, List.getElem?_append_left hi, ← List.getD_eq_getElem?_getD] at this⟩⟩
  have hclone := clone_some ⟨b, o, none⟩ c l w (by omega) hbody
  obtain ⟨n, hn⟩ : ∃ n, n = l.length := ⟨_, rfl⟩
  have HN := Lib.hid hn
  rw [← hn] at hl hc hclone ⊢
  clear hn

  have hd : decide ((n : Int) + 4 < 4) = false := decide_eq_false (by omega)
  go_enter Try.func11, Try.ntmps11
  go_wp2_with fail
  refine hclone.mono ?_
  rintro e w1 ⟨v1, rfl, hown1, hne, hb1⟩
  clear hclone
  obtain ⟨g, cap, rfl, hgb, hgl, hcap⟩ := owned_form hown1 hne
  have hs1 := hb1.size
  have hin1 : BytesIn w1 (some ⟨g, 0, none⟩) cap l := owned_in (by rw [← HN.out]; exact hown1)
  have hseal := seal_any l ho (by rw [← HN.out]; omega) (some ⟨g, 0, none⟩) cap w1 hin1
  have hot4 := Crc.le4_octets (Crc.crc l)
  have hl4 : (Crc.le4 (Crc.crc l)).length = 4 := rfl
  obtain ⟨T, hT⟩ : ∃ T, T = Crc.le4 (Crc.crc l) := ⟨_, rfl⟩
  rw [← hT] at hot4 hl4 hseal
  have HT := Lib.hid hT
  clear hT
  rw [← HN.out] at hseal
  go_wp2_with fail
  refine hseal.mono ?_
  rintro e w2 ⟨v2, rfl, hown2, hb2⟩
  clear hseal
  obtain ⟨g2, cap2, rfl, hg2b, hg2l⟩ := hown2.form (by omega)
  have hs2 := hb2.size
  have hb12 : Below w.heap.size w w2 := hb1.trans (hb2.mono hs1)
  have hin2 : BytesIn w2 (some ⟨g2, 0, none⟩) cap2 (l ++ T) := owned_in (by rw [List.length_append, hl4, ← HN.out]; exact hown2)
  have hinb : BytesIn w2 (some ⟨b, o, none⟩) c (l ++ t) := h.below hb12
  have hown3 : w2.ownsRow w.heap.size 5 1 (.slice (some ⟨g, 0, none⟩) n cap) n (bcells l) := owns_below hown1 hb2 (Nat.le_refl _)
  have heq := equal_any (l ++ T) (l ++ t) (Crc.octets_append ho hot4) (Crc.octets_append ho hot) _ _ cap2 c w2 hin2 hinb
  rw [List.length_append, List.length_append, hl4, ht, ← HN.out] at heq
  clear hin2 hinb hown2 hown1
  by_cases ht4 : t = T
  · have he : decide (l ++ T = l ++ t) = true := decide_eq_true (by rw [ht4])
    rw [he] at heq
    go_wp2_with fail
    refine heq.mono ?_
    rintro e w3 ⟨rfl, rfl⟩
    clear heq
    go_wp2
    go_ret2
    exact ⟨hb12, .inl ⟨ht4.trans HT.out, _, rfl, hown3⟩⟩
  · have he : decide (l ++ T = l ++ t) = false := decide_eq_false (fun e => ht4 (List.append_cancel_left e).symm)
    rw [he] at heq
    go_wp2_with fail
    refine heq.mono ?_
    rintro e w3 ⟨rfl, rfl⟩
    clear heq
    go_wp2
    go_ret2
    exact ⟨hb12, .inr ⟨fun e => ht4 (e.trans HT.out.symm), rfl⟩⟩
end Go.Proofs.Ytehdbnjkgdfgbaa
