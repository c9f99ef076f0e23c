/-
  bytes.Clone.
-/
import Derived.Test.YtgcifhhbhoafcaaSlotNum
import Derived.Laws.AppendOwnNone
import Derived.Lib.BufferMore
namespace Go.Proofs.Ytgcifhhbhoafcaa
open Go.RowKit Go.Shelf

/-- Bytes that were made behind a block. -/
def NewAt (lo : Nat) (w : World) (q : Option Addr) (cap : Nat) (l : List UInt8) : Prop := InAt w q l ∧ (∃ b, q = some ⟨b, 0, none⟩ ∧ lo ≤ b ∧ ∃ cs fr, w.heap[b]? = some (.cells cs 5 fr)) ∧ l.length ≤ cap ∧ cap ≤ 9223372036854775807
theorem NewAt.on {lo : Nat} {w w' : World} {q : Option Addr} {cap : Nat} {l : List UInt8} (H : NewAt lo w q cap l) (hb : Below w.heap.size w w') : NewAt lo w' q cap l := by
  obtain ⟨h1, ⟨b, hq, hlo, cs, fr, hh⟩, h2⟩ := H
  exact ⟨h1.on hb, ⟨b, hq, hlo, cs, fr, (Chg.below hb (fun _ => False)).box hh (fun e => e)⟩, h2⟩

set_option maxRecDepth 20000 in
set_option maxHeartbeats 1000000 in
theorem clone_any (b o c : Nat) (body : List UInt8) (hbl : body.length ≤ 1048576) (w : World) (hin : w.rangeAt b o (bCells body)) :
    Calls Try.prog 72 #[.slice (some ⟨b, o, none⟩) body.length c] w fun e w' => ∃ q cap, e = .returned (.slice q body.length cap) ∧ NewAt w.heap.size w' q cap body ∧ Below w.heap.size w w' := by
  obtain ⟨L, hL⟩ : ∃ L, L = body.length := ⟨_, rfl⟩
  have HL := Lib.hid hL
  rw [← hL] at hbl ⊢
  obtain ⟨i0, hi, hz0, hz1, hz2⟩ := info_parts info_u8
  have hlit : (w.alloc (.cells #[] 5)).ownsRow w.heap.size 5 1 (.slice (some ⟨w.heap.size, 0, none⟩) 0 0) 0 [] := World.ownsRow_lit (size := 1) w #[] 0 (Nat.le_refl _) (by decide) rfl
  have hb0 : Below w.heap.size w (w.alloc (.cells #[] 5)) := bA (Below.refl _ _) _
  have hrd : (w.alloc (.cells #[] 5)).rangeAt b o (bCells body) := (Chg.below hb0 (fun _ => False)).range hin (fun e => e)
  have HLIT := Lib.hid hlit
  have HB0 := Lib.hid hb0
  have HRD := Lib.hid hrd
  have HSZ := Lib.hid hb0.size
  clear hL hlit hb0 hrd hin
  have hnil := Go.Lib.run_eql_slice_some_nil (P := Try.prog) w ⟨b, o, none⟩ L c Try.underlying22
  go_enter Try.func72, Try.ntmps72
  go_wp2_with (at_builtin; refine wpList_append_own _ rfl (.tmp 5) (.tmp 6) 22 rfl w.heap.size 5 i0 (.int .u8 0) 1 1 Try.underlying22 hi hz0 hz1 hz2 rfl (by decide) _ 0 [] rfl HLIT.out ⟨b, o, none⟩ L c (bCells body) rfl (by rw [bCells_len, ← HL.out]; omega) (fun j u hj => by rw [Go.WideShapes.add_plain]; exact HRD.out j u hj) (bCells_one body) (by unfold maxLen; omega) (by omega) HSZ.out ?_; intro v7 w7 hrow7 hg7 hv7; have HROW := Lib.hid hrow7; have HG := Lib.hid hg7; have HV := Lib.hid hv7; clear hrow7 hg7 hv7)
  go_ret
  have hrow := HROW.out
  rw [List.nil_append, Nat.zero_add] at hrow
  have hbel : Below w.heap.size w w7 := (Chg.grown HG.out).on HB0.out HSZ.out (fun k e => by
    have e' : some k = some w.heap.size := e
    cases e'
    exact Nat.le_refl _)
  rcases hrow.2 with ⟨rfl, hn⟩ | ⟨gr, cap, cur, rfl, hlo, hg, hn, hm, hs, ht⟩
  · have := HV.out.1 rfl
    cases this.1
  · refine ⟨_, cap, rfl, ⟨fun _ => ⟨gr, 0, rfl, ?_⟩, ⟨gr, rfl, hlo, cur, _, hg⟩, by rw [← HL.out]; exact hn, by unfold maxLen at hm; omega⟩, hbel⟩
    intro j u hj
    have h := hrow.cells rfl j u hj
    rwa [Go.WideShapes.add_plain] at h
end Go.Proofs.Ytgcifhhbhoafcaa
