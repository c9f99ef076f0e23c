/-
  Slots over a whole disk, the power on; two entries compared.
-/
import Derived.Test.YtgcifhhbhoafcaaSlotHold
import Derived.Test.YtgcifhhbhoafcaaLogSame
import Derived.Test.YtgcifhhbhoafcaaLogOpen
namespace Go.Proofs.Ytgcifhhbhoafcaa
open Go.RowKit Go.Shelf

set_option maxRecDepth 20000 in
set_option maxHeartbeats 1000000 in
theorem esame_any (z y : Int) (a b : List UInt8) (p q : Option Addr) (c d : Nat) (w : World) (h1 : InAt w p a) (h2 : InAt w q b) :
    Calls Try.prog 21 #[.agg #[.int .i64 z, .slice p a.length c], .agg #[.int .i64 y, .slice q b.length d]] w fun e w' => e = .returned (.bool (decide (z = y) && decide (a = b))) ∧ Below w.heap.size w w' := by
  obtain ⟨w1, hw1⟩ : ∃ w1, (w.alloc (.cells #[.int .i64 z, .slice p a.length c] 48)).alloc (.cells #[.int .i64 y, .slice q b.length d] 48) = w1 := ⟨_, rfl⟩
  obtain ⟨X, hX⟩ : ∃ X, w.heap.size = X := ⟨_, rfl⟩
  have hb : Below w.heap.size w w1 := by rw [← hw1]; exact bA (bA (Below.refl _ _) _) _
  have hA : w1.heap[X]? = some (.cells #[.int .i64 z, .slice p a.length c] 48 (0, 0)) := by
    rw [← hw1, ← hX, Below.heap_alloc _ _ _ (by simp)]
    exact heap_new w _
  have hB : w1.heap[X + 1]? = some (.cells #[.int .i64 y, .slice q b.length d] 48 (0, 0)) := by
    rw [← hw1, ← hX]
    have := heap_new (w.alloc (.cells #[.int .i64 z, .slice p a.length c] 48)) (.cells #[.int .i64 y, .slice q b.length d] 48)
    simpa using this
  have a0 : w1.cell? ⟨X, 0, none⟩ = some (.int .i64 z) := by rw [cell_in hA]; rfl
  have a1 : w1.cell? ⟨X, 1, none⟩ = some (.slice p a.length c) := by rw [cell_in hA]; rfl
  have b0 : w1.cell? ⟨X + 1, 0, none⟩ = some (.int .i64 y) := by rw [cell_in hB]; rfl
  have b1 : w1.cell? ⟨X + 1, 1, none⟩ = some (.slice q b.length d) := by rw [cell_in hB]; rfl
  have c1 := conv_in (c := c) (h1.on hb)
  have c2 := conv_in (c := d) (h2.on hb)
  have ceq := bs_eq a b
  obtain ⟨n1, hn1⟩ : ∃ n1, n1 = a.length := ⟨_, rfl⟩
  obtain ⟨n2, hn2⟩ : ∃ n2, n2 = b.length := ⟨_, rfl⟩
  rw [← hn1] at a1 c1 hw1 ⊢
  rw [← hn2] at b1 c2 hw1 ⊢
  obtain ⟨A, hA2⟩ : ∃ A, bs a = A := ⟨_, rfl⟩
  obtain ⟨B, hB2⟩ : ∃ B, bs b = B := ⟨_, rfl⟩
  rw [hA2] at c1 ceq
  rw [hB2] at c2 ceq
  obtain ⟨eqb, heqb⟩ : ∃ eqb, decide (a = b) = eqb := ⟨_, rfl⟩
  rw [heqb] at ceq ⊢
  have HB := Lib.hid hb
  clear hb hA hB h1 h2 hn1 hn2 hA2 hB2 heqb
  by_cases hzy : z = y
  · have d1 : decide (z = y) = true := decide_eq_true hzy
    have d2 : (z == y) = true := beq_iff_eq.2 hzy
    rw [d1, Bool.true_and]
    clear hzy
    go_enter Try.func21, Try.ntmps21
    go_wp2
    go_ret
    exact ⟨rfl, HB.out⟩
  · have d1 : decide (z = y) = false := decide_eq_false hzy
    have d2 : (z == y) = false := beq_eq_false_iff_ne.2 hzy
    rw [d1, Bool.false_and]
    clear hzy
    go_enter Try.func21, Try.ntmps21
    go_wp2
    go_ret
    exact ⟨rfl, HB.out⟩

/-- Open of a whole disk with no pending writes. -/
theorem open_whole (D g : Nat) (S : List Sec) (m gn : Nat) (c : Option Ck) (hm1 : 1 ≤ m) (hh : SHold m S gn c) (w : World) (H : DiskAt w D g S (.slice none 0 0) [] (-1)) (hDg : D ≠ g) :
    Calls Try.prog 19 #[.pointer (some ⟨D, 0, none⟩), .int .i64 0, .int .i64 m] w fun e w' => ∃ P q cq, e = .returned (.tuple #[.pointer (some ⟨P, 0, none⟩), .agg (entB c q cq), .bool c.isSome, .int .i64 0]) ∧ w.heap.size ≤ P ∧ SlAt w' P D 0 m gn false ∧ Held w.heap.size w' c q cq ∧ DiskAt w' D g S (.slice none 0 0) [] (-1) ∧ Chg (fun k => k = D) w w' := by
  have h := sopen_any D g S (.slice none 0 0) [] (-1) (by decide) (by decide) (by simp) 0 m hm1 (by rw [hh.len]; omega) w H hDg
  have e : partS (doneS S []) 0 (2 * m) = S := by
    rw [← hh.len]
    unfold partS doneS
    rw [List.foldl_nil, List.drop_zero, List.take_length]
  rw [e, hh.isCur hm1, hh.gen] at h
  exact h
/-- Slots over a whole disk, no limit. -/
structure SSt (w0 wr : World) (P D g m gn : Nat) (S : List Sec) (c : Option Ck) : Prop where
  sl : SlAt wr P D 0 m gn false
  disk : DiskAt wr D g S (.slice none 0 0) [] (-1)
  hold : SHold m S gn c
  apart : D ≠ g ∧ P ≠ D ∧ P ≠ g
  base : w0.heap.size ≤ P ∧ w0.heap.size ≤ D ∧ w0.heap.size ≤ g
  below : Below w0.heap.size w0 wr
theorem SSt.on {w0 wr w' : World} {P D g m gn : Nat} {S : List Sec} {c : Option Ck} (H : SSt w0 wr P D g m gn S c) (hb : Below wr.heap.size wr w') : SSt w0 w' P D g m gn S c :=
  ⟨H.sl.chg (Chg.below hb (fun _ => False)) (fun e => e), H.disk.on hb, H.hold, H.apart, H.base, H.below.trans (hb.mono H.below.size)⟩
theorem SSt.save {w0 wr : World} {P D g m gn : Nat} {S : List Sec} {c : Option Ck} (H : SSt w0 wr P D g m gn S c) (hm1 : 1 ≤ m) (hgn : gn < 9000000000000000000) (st : Nat) (hst : st ≤ 1152921504606846975) (p : Option Addr) (cc : Nat) (body : List UInt8) (hbl : body.length ≤ 100000) (hcb : body.length ≤ cc) (hcc : cc ≤ 9223372036854775807) (hfit : body.length ≤ roomS m) (hin : InAt wr p body) (hne : ∀ b o, p = some ⟨b, o, none⟩ → 0 < body.length → b ≠ D ∧ b ≠ g) :
    Calls Try.prog 25 #[.pointer (some ⟨P, 0, none⟩), .agg #[.int .i64 st, .slice p body.length cc]] wr fun e w' =>
      e = .returned (.int .i64 0) ∧ SSt w0 w' P D g m (gn + 1) (putS S ((gn + 1) % 2 * m) (hdrS (gn + 1) st body :: padS body)) (some ⟨gn + 1, st, body⟩) ∧ Chg (fun k => k = P ∨ k = D ∨ k = g) wr w' := by
  have h := ssave_fits P D 0 m gn ((gn + 1) % 2 * m) g S (-1) (by decide) hm1 hgn (by rw [Nat.zero_add]) st hst p cc body (by omega) hcb hcc hfit (by rw [H.hold.len]; omega) wr hin hne H.sl H.disk H.apart.1 H.apart.2.1 H.apart.2.2
  refine h.mono ?_
  rintro e w' (⟨rfl, ⟨c', hd, hc', _⟩, hsl, hc⟩ | ⟨_, h0, _⟩)
  · obtain rfl := hc' (by decide)
    have hbs := H.base
    exact ⟨rfl, ⟨hsl, hd, H.hold.put hm1 st body hst hfit (by omega), H.apart, H.base, hc.on H.below H.below.size (fun k hk => by rcases hk with hk | hk | hk <;> omega)⟩, hc⟩
  · omega
end Go.Proofs.Ytgcifhhbhoafcaa
