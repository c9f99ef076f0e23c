/-
  resp.takeLine, of any bytes.
-/
import Derived.Test.YtcikelcecfapcaaDoorRespParse
import Derived.Lib.SlBytesConst
import Derived.Lib.SmallJoins
namespace Go.Proofs.YtcikelcecfapcaaDoor
open Go.RowKit Rp

/-- What takeLine answers. -/
def Lined (p : Option Addr) (c : Nat) (l : List UInt8) (e : Ending) (a : Option (List UInt8 × List UInt8)) : Prop :=
  match a with
  | some (t, r) => ∃ q d, e = .returned (.tuple #[.string (bs t), .slice q r.length d, .bool true]) ∧ Sub p c l q d r
  | none => ∃ S q n d, e = .returned (.tuple #[.string S, .slice q n d, .bool false])

theorem convert_rest {w : World} {b o : Nat} {l : List UInt8} (c k : Nat) (hk : k ≤ l.length) (h3 : ∀ (j : Nat) (h : j < l.length), w.cell? ⟨b, o + j, none⟩ = some (.int .u8 (l[j].toNat : Nat))) :
    (convert 22 9 (.slice (some ⟨b, o, none⟩) k c)).run Tryd.prog w = .ok (.string (bs (l.take k))) w := by
  have hl : (l.take k).length = k := by rw [List.length_take]; omega
  have h := run_convert_bytes_back (P := Tryd.prog) w 22 9 5 ⟨b, o, none⟩ c (l.take k) Tryd.underlying22 Tryd.underlying5 Tryd.underlying9 (by
    intro j hj
    rw [hl] at hj
    rw [Lib.add_plain, h3 j (by omega), List.getElem_take])
  rw [hl] at h
  exact h

set_option maxRecDepth 20000 in
set_option maxHeartbeats 2000000 in
theorem line_hit (l : List UInt8) (hk : brk l < l.length) (p : Option Addr) (c : Nat) (w : World) (hR : Runes w) (h : Rest w p c l) :
    Calls Tryd.prog 52 #[.slice p l.length c] w fun e w' => Lined p c l e (cut l) ∧ Below w.heap.size w w' := by
  have hi := idx_any l (brk l) (brk_first l) p c w hR h.bin
  have hv : firstV l (brk l) = (brk l : Int) := if_pos hk
  rw [hv] at hi
  rcases h with ⟨rfl, rfl, rfl⟩ | ⟨b, o, rfl, h1, h2, h3⟩
  · simp at hk
  have HI := Lib.hid hi
  have H3 := Lib.hid h3
  clear hi h3 hv
  obtain ⟨k, hkd⟩ : ∃ k, brk l = k := ⟨_, rfl⟩
  have HC := Lib.hid (show cut l = if crlf (l.drop k) then some (l.take k, l.drop (k + 2)) else none by rw [cut, hkd])
  rw [hkd] at hk HI
  clear hkd
  have hmx := h2
  unfold maxLen at hmx
  have hd0 : decide ((k : Int) < 0) = false := decide_eq_false (by omega)
  have hck : (c = k) = False := eq_false (by omega)
  have kc : ∀ w1 : World, (convert 22 22 (.slice (some ⟨w1.heap.size, 0, none⟩) 2 2)).run Tryd.prog (w1.alloc (.cells #[.int .u8 13, .int .u8 10] 5)) = .ok (.slice (some ⟨w1.heap.size, 0, none⟩) 2 2) (w1.alloc (.cells #[.int .u8 13, .int .u8 10] 5 (2, 3))) := fun w1 => Lib.run_convert_bytes_const (P := Tryd.prog) w1 22 5 #[.int .u8 13, .int .u8 10] 2 2 Tryd.underlying22 Tryd.underlying5
  go_enter Tryd.func52, Tryd.ntmps52
  go_wp2_with fail
  refine HI.out.mono ?_
  rintro e w1 ⟨rfl, hb1⟩
  go_wp2_with fail
  have hR1 := rest_from (w := w) (c := c) k (by omega) h1 h2 H3.out (some ⟨b, o + k, none⟩) (by rw [if_neg (by omega)])
  have hb2 : Below w1.heap.size w1 (w1.alloc (.cells #[.int .u8 13, .int .u8 10] 5 (2, 3))) := bA (Below.refl _ _) _
  have hc := cutprefix_any hR1 (hb1.trans (hb2.mono hb1.size)) w1.heap.size 2 (by rw [World.cell?_alloc_mark]; rfl) (by rw [World.cell?_alloc_mark]; rfl)
  rw [List.length_drop] at hc
  have HP := Lib.hid hc
  clear hc
  refine HP.out.mono ?_
  rintro e w2 ⟨rfl, hv⟩
  have hcv := fun (W : World) (hW : Below w.heap.size w W) => convert_rest (w := W) c k (by omega) (fun j hj => (hW.cell (p := ⟨b, o + j, none⟩) (World.block_lt_of_cell? w _ (H3.out j hj))).trans (H3.out j hj))
  have hcv := hcv _ (hb1.trans (hb2.mono hb1.size))
  rcases hv with ⟨hx, q, d, rfl, hq⟩ | ⟨hx, rfl⟩
  · 
    have hcut : cut l = some (l.take k, l.drop (k + 2)) := by rw [HC.out, if_pos hx]
    rw [List.drop_drop] at hq
    have hlen : (l.drop (k + 2)).length = l.length - k - 2 := by rw [List.length_drop]; omega
    have HX := Lib.hid hx
    clear hcut hx
    go_wp2
    refine bodyPost_ret (v := .tuple #[.string (bs (l.take k)), .slice q (l.length - k - 2) d, .bool true]) (by simp [results, Tryd.results52, go_sem]) rfl ?_
    rw [HC.out]
    rw [if_pos HX.out]
    exact ⟨⟨q, d, by rw [hlen], (sub_from k (by omega) (some ⟨b, o + k, none⟩) (by rw [if_neg (by omega)])).trans hq⟩, hb1.trans (hb2.mono hb1.size)⟩
  · go_wp2
    refine bodyPost_ret (v := .tuple #[.string (bs (l.take k)), .slice (some ⟨b, o + k, none⟩) (l.length - k) (c - k), .bool false]) (by simp [results, Tryd.results52, go_sem]) rfl ?_
    rw [HC.out, if_neg (by rw [hx]; decide)]
    exact ⟨⟨_, _, _, _, rfl⟩, hb1.trans (hb2.mono hb1.size)⟩

set_option maxHeartbeats 400000 in
theorem line_none (l : List UInt8) (hk : ¬ brk l < l.length) (p : Option Addr) (c : Nat) (w : World) (hR : Runes w) (h : Rest w p c l) :
    Calls Tryd.prog 52 #[.slice p l.length c] w fun e w' => Lined p c l e (cut l) ∧ Below w.heap.size w w' := by
  have hi := idx_any l (brk l) (brk_first l) p c w hR h.bin
  have hv : firstV l (brk l) = -1 := if_neg hk
  rw [hv] at hi
  have HI := Lib.hid hi
  have HC := Lib.hid (show cut l = none by
    rw [cut, List.drop_eq_nil_of_le (by omega)]; rfl)
  clear hi hv
  go_enter Tryd.func52, Tryd.ntmps52
  go_wp2_with fail
  refine HI.out.mono ?_
  rintro e w1 ⟨rfl, hb1⟩
  go_wp2
  refine bodyPost_ret (v := .tuple #[.string ⟨#[]⟩, .slice none 0 0, .bool false]) (by simp [results, Tryd.results52, go_sem]) rfl ?_
  rw [HC.out]
  exact ⟨⟨_, _, _, _, rfl⟩, hb1⟩

/-- resp.takeLine, of any bytes. -/
theorem line_take (l : List UInt8) (p : Option Addr) (c : Nat) (w : World) (hR : Runes w) (h : Rest w p c l) :
    Calls Tryd.prog 52 #[.slice p l.length c] w fun e w' => Lined p c l e (cut l) ∧ Below w.heap.size w w' := by
  by_cases hk : brk l < l.length
  · exact line_hit l hk p c w hR h
  · exact line_none l hk p c w hR h
end Go.Proofs.YtcikelcecfapcaaDoor
