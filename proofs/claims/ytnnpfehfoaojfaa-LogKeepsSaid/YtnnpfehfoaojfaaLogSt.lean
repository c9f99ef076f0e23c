/-
  A log over a whole disk, the power on.
-/
import Derived.Test.YtnnpfehfoaojfaaLogAwake
namespace Go.Proofs.Ytnnpfehfoaojfaa
open Go.RowKit Go.Shelf

structure LSt (w0 wr : World) (P D g n u l : Nat) (S : List Sec) : Prop where
  log : LogAt wr P D 0 n u l false
  disk : DiskAt wr D g S (.slice none 0 0) [] (-1)
  len : S.length = n
  fit : u ≤ n
  apart : D ≠ g ∧ P ≠ D ∧ P ≠ g
  base : w0.heap.size ≤ P ∧ w0.heap.size ≤ D ∧ w0.heap.size ≤ g
  below : Below w0.heap.size w0 wr
theorem LSt.on {w0 wr w' : World} {P D g n u l : Nat} {S : List Sec} (H : LSt w0 wr P D g n u l S) (hb : Below wr.heap.size wr w') : LSt w0 w' P D g n u l S :=
  ⟨H.log.chg (Chg.below hb (fun _ => False)) (fun e => e), H.disk.on hb, H.len, H.fit, H.apart, H.base, H.below.trans (hb.mono H.below.size)⟩
theorem LSt.append {w0 wr : World} {P D g n u l : Nat} {S : List Sec} (H : LSt w0 wr P D g n u l S) (hl : l < 1152921504606846975) (p : Option Addr) (cc : Nat) (body : List UInt8) (hbl : body.length ≤ 100000) (hcb : body.length ≤ cc) (hcc : cc ≤ 9223372036854775807) (hin : InAt wr p body) (hne : ∀ b o, p = some ⟨b, o, none⟩ → 0 < body.length → b ≠ D ∧ b ≠ g) :
    Calls Try.prog 18 #[.pointer (some ⟨P, 0, none⟩), .int .i64 ((l : Int) + 1), .slice p body.length cc] wr fun e w' =>
      (u + secs body.length ≤ n ∧ e = .returned (.int .i64 0) ∧ LSt w0 w' P D g n (u + secs body.length) (l + 1) (putS S u (hdr (l + 1) body :: packed body)))
      ∨ (n < u + secs body.length ∧ e = .returned (.int .i64 22) ∧ LSt w0 w' P D g n u l S) := by
  have hfew := H.disk.few
  have hfit := H.fit
  have hlen := H.len
  by_cases hf : u + secs body.length ≤ n
  · have h := append_fits P D 0 n u l g S (-1) (by decide) hl p cc body hbl hcb hcc hf (by omega) wr hin hne H.log H.disk H.apart.1 H.apart.2.1 H.apart.2.2
    refine h.mono ?_
    rintro e w' (⟨rfl, ⟨c', hd, hc', _⟩, hlg, hc⟩ | ⟨_, h0, _⟩)
    · obtain rfl := hc' (by decide)
      rw [Nat.zero_add] at hd
      have hX : (hdr (l + 1) body :: packed body).length = secs body.length := by rw [List.length_cons, packed_len]; unfold secs; omega
      have hbs := H.base
      refine .inl ⟨hf, rfl, hlg, hd, by rw [putS_len (by rw [hX]; omega), hlen], hf, H.apart, H.base, hc.on H.below H.below.size (fun k hk => ?_)⟩
      rcases hk with hk | hk | hk <;> omega
    · omega
  · have h := append_full P D 0 n u l hl p body.length cc hbl hfit (by omega) (by omega) wr H.log
    refine h.mono ?_
    rintro e w' ⟨rfl, hb⟩
    exact .inr ⟨by omega, rfl, H.on hb⟩
/-- A new disk and a log over the whole of it. -/
theorem LSt.opened {w0 w1 w2 : World} {P D g n after : Nat} {S : List Sec} {v : Value} {E : List Ent} (hb1 : Below w0.heap.size w0 w1) (hbase : w0.heap.size ≤ D ∧ w0.heap.size ≤ g) (hDg : D ≠ g) (hlen : S.length = n) (h64 : D < w1.heap.size ∧ g < w1.heap.size) (hP : w1.heap.size ≤ P) (hO : Opened w1 w2 P D 0 n S after v E) (hd : DiskAt w2 D g S (.slice none 0 0) [] (-1)) (hc : Chg (fun k => k = D) w1 w2) :
    LSt w0 w2 P D g n (usedS (E.map (·.body))) (after + E.length) S :=
  ⟨hO.log, hd, hlen, hO.fit, ⟨hDg, by omega, by omega⟩, ⟨by have := hb1.size; omega, hbase.1, hbase.2⟩, hc.on hb1 hb1.size (fun k hk => by omega)⟩
theorem partS_all (S : List Sec) (n : Nat) (h : S.length = n) : partS (doneS S []) 0 n = S := by
  unfold partS doneS
  rw [List.foldl_nil, List.drop_zero, List.take_of_length_le (by omega)]
theorem zero_in {w : World} {b n : Nat} (h : w.heap[b]? = some (.cells (List.replicate n (Value.int .u8 0)).toArray 5 (0, 0))) : InAt w (some ⟨b, 0, none⟩) (List.replicate n 0) := fun _ => ⟨b, 0, rfl, in_block (by rw [h]; simp [bCells])⟩
end Go.Proofs.Ytnnpfehfoaojfaa
