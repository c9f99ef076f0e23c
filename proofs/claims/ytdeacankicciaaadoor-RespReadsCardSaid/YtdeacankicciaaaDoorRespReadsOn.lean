/-
  What RespReads answers: true.
-/
import Derived.Test.YtdeacankicciaaaDoorRespRefE
import Derived.Test.YtdeacankicciaaaDoorRespJoin
import Derived.Test.YtdeacankicciaaaDoorRespSameB
namespace Go.Proofs.YtdeacankicciaaaDoor
open Go.RowKit Rp

theorem zero_rep (w : World) : RepIn w (.mk 0 [] 0 []) none 0 := leaf_rep 0 w 0 [] 0 ⟨by decide, by decide⟩ ⟨by decide, by decide⟩ (by simp [maxLen]) w (fun _ _ _ => rfl)

theorem ref_tail (d : Nat) (hd : d ≤ 4) (l : List UInt8) (hl : l.length ≤ 1000000000) (p : Option Addr) (c : Nat) (w : World) (h : Tail w p c l) :
    Calls Tryd.prog 11 #[.slice p l.length c, .int .i64 0, .int .i64 d] w fun e w' => RefV w.heap.size w' l.length e (rd d l) ∧ Below w.heap.size w w' := by
  rcases h with h | ⟨rfl, ad, rfl⟩
  · exact refread_any d hd l hl 0 (Nat.zero_le _) p c w h
  · rw [rd_nil]
    exact rr_nil d (some ad) c w

set_option maxRecDepth 20000 in
set_option maxHeartbeats 4000000 in
theorem reads_long (n : Nat) (hn : ¬ n ≤ 4000) (p : Option Addr) (c : Nat) (w : World) (hT : Tens w) :
    Calls Tryd.prog 3 #[.slice p n c] w fun e w' => e = .returned (.bool true) ∧ Below w.heap.size w w' := by
  have HA := Lib.hid (fun W (hW : Below w.heap.size w W) => awake_true W (hT.on hW))
  clear hT
  have hd : decide ((4000 : Int) < (n : Int)) = true := decide_eq_true (by omega)
  go_enter Tryd.func3, Tryd.ntmps3
  go_wp2_with fail
  refine (HA.out _ (Below.refl _ _)).mono ?_
  rintro e w1 ⟨rfl, hb1⟩
  go_wp2_with fail
  refine (HA.out _ hb1).mono ?_
  rintro e w2 ⟨rfl, hb2⟩
  go_wp2
  go_ret
  exact ⟨rfl, bT hb1 hb2⟩

set_option maxRecDepth 20000 in
set_option maxHeartbeats 4000000 in
theorem reads_on (l : List UInt8) (hl : l.length ≤ 4000) (p : Option Addr) (c : Nat) (w : World) (h : Tail w p c l) (hL : Errs w) (hR : Runes w) :
    Calls Tryd.prog 3 #[.slice p l.length c] w fun e w' => e = .returned (.bool true) ∧ Below w.heap.size w w' := by
  have HA := Lib.hid (awake_true w hL.tab)
  have hd : decide ((4000 : Int) < (l.length : Int)) = false := decide_eq_false (by omega)
  have HL := Lib.hid hL
  have HR := Lib.hid hR
  have HH := Lib.hid h
  clear h hL hR
  go_enter Tryd.func3, Tryd.ntmps3
  go_wp2_with fail
  refine HA.out.mono ?_
  rintro e w1 ⟨rfl, hb1⟩
  have HR1 := Lib.hid (HH.out.below (bA hb1 (.cells #[] 5)))
  have HOW := Lib.hid (World.ownsRow_made (base := w.heap.size) (e := 5) (size := 1) w1 #[] 0 hb1.size (by unfold maxLen; omega) rfl)
  have hs1 := hb1.size
  go_wp2_with (at_builtin; refine append_rest rfl (.tmp 17) (.tmp 18) rfl w.heap.size _ 0 [] rfl HOW.out p l.length c l rfl rfl HR1.out (by omega) (by simp; omega) ?_)
  intro v w2 hown hgrow hnil
  clear hnil
  have hown2 : w2.ownsRow w.heap.size 5 1 v l.length (sCells l) := by simpa using hown
  obtain ⟨q, d, rfl, hq⟩ := own_rest hown2
  have hB2 : Below w.heap.size w w2 := (bA hb1 _).grown hgrow (by simp; omega) (fun k hk => (HOW.out.lt k hk).1)
  have HRD := Lib.hid (read_any l (by omega) q d w2 (HL.out.on hB2) (HR.out.on hB2) hq)
  clear hown hown2 hgrow hq hs1
  go_wp2_with fail
  refine HRD.out.mono ?_
  rintro e w3 ⟨hv, hb3⟩
  have hB3 := bT hB2 hb3
  have HRR := fun (W : World) (hW : Below w.heap.size w W) => ref_tail 4 (Nat.le_refl 4) l (by omega) p c W (HH.out.below hW)
  cases hrd : rd 4 l with
  | none =>
    rw [hrd] at hv
    simp only [hrd] at HRR
    obtain rfl := hv
    have HR4 := Lib.hid HRR
    clear HRR hrd
    have hB3a := bA hB3 (.cells #[.int .i64 0, .string ⟨#[]⟩, .int .i64 0, .slice none 0 0] 26)
    have HN3 := Lib.hid (heap_alloc_new w3 (.cells #[.int .i64 0, .string ⟨#[]⟩, .int .i64 0, .slice none 0 0] 26))
    go_wp2_with fail
    generalize w3.alloc (.cells #[.int .i64 0, .string ⟨#[]⟩, .int .i64 0, .slice none 0 0] 26 (0, 0)) = w4 at *
    refine (HR4.out _ hB3a).mono ?_
    rintro e w5 ⟨hv5, hb5⟩
    obtain rfl := hv5
    have hB5 := bT hB3a hb5
    have hN5 : ∀ X, (w5.alloc X).heap[w3.heap.size]? = some (.cells #[.int .i64 0, .string ⟨#[]⟩, .int .i64 0, .slice none 0 0] 26 (0, 0)) := fun X => ((bA hb5 X).block _ (Array.getElem?_eq_some_iff.1 HN3.out).1).trans HN3.out
    have c0 := fun X => (cells4 (hN5 X)).1
    have c1 := fun X => (cells4 (hN5 X)).2.1
    have c2 := fun X => (cells4 (hN5 X)).2.2.1
    have c3 := fun X => (cells4 (hN5 X)).2.2.2
    clear hN5
    have HS := Lib.hid (fun W => refsame_any (.mk 0 [] 0 []) (.mk 0 [] 0 []) none none 0 0 W (zero_rep W) (zero_rep W))
    rw [(same_iff (.mk 0 [] 0 []) (.mk 0 [] 0 [])).2 rfl] at HS
    unfold repCs at HS
    simp only [Rep.kind, Rep.str, Rep.num, Rep.kids, List.length_nil] at HS
    rw [show bs ([] : List UInt8) = (⟨#[]⟩ : ByteArray) from rfl] at HS
    go_wp2_with fail
    refine (HS.out _).mono ?_
    rintro e w6 ⟨rfl, hb6⟩
    go_wp2
    go_ret
    exact ⟨rfl, bT (bA hB5 _) hb6⟩
  | some y =>
    obtain ⟨x, s⟩ := y
    rw [hrd] at hv
    simp only [hrd] at HRR
    obtain ⟨q1, d1, rfl, hf⟩ := hv
    have HF := Lib.hid hf
    have HR4 := Lib.hid HRR
    clear HRR hrd hf
    simp only [repCs]
    obtain ⟨K, hK⟩ : ∃ K : Nat, l.length - s.length = K := ⟨_, rfl⟩
    rw [hK]
    have HK := Lib.hid hK
    clear hK
    have hB3a := bA hB3 (.cells #[.int .i64 x.kind, .string (bs x.str), .int .i64 x.num, .slice q1 x.kids.length d1] 26)
    have HN3 := Lib.hid (heap_alloc_new w3 (.cells #[.int .i64 x.kind, .string (bs x.str), .int .i64 x.num, .slice q1 x.kids.length d1] 26))
    have HB34 := Lib.hid (bA (Below.refl w3.heap.size w3) (.cells #[.int .i64 x.kind, .string (bs x.str), .int .i64 x.num, .slice q1 x.kids.length d1] 26))
    go_wp2_with fail
    generalize w3.alloc (.cells #[.int .i64 x.kind, .string (bs x.str), .int .i64 x.num, .slice q1 x.kids.length d1] 26 (0, 0)) = w4 at *
    refine (HR4.out _ hB3a).mono ?_
    rintro e w5 ⟨hv5, hb5⟩
    obtain ⟨q2, d2, rfl, hf2⟩ := hv5
    rw [HK.out]
    simp only [repCs]
    have hB5 := bT hB3a hb5
    have hr1 := Lib.hid (HF.out w3 (fun _ _ _ => rfl))
    have hr2 := Lib.hid (hf2 w5 (fun _ _ _ => rfl))
    have hr15 := Lib.hid (RepIn.below (bT HB34.out hb5) _ hr1.out)
    have hN5 : ∀ X, (w5.alloc X).heap[w3.heap.size]? = some (.cells #[.int .i64 x.kind, .string (bs x.str), .int .i64 x.num, .slice q1 x.kids.length d1] 26 (0, 0)) := fun X => ((bA hb5 X).block _ (Array.getElem?_eq_some_iff.1 HN3.out).1).trans HN3.out
    have hBX := Lib.hid (bA hB5 (.cells #[.int .i64 x.kind, .string (bs x.str), .int .i64 x.num, .slice q2 x.kids.length d2] 26))
    have hN6 := heap_alloc_new w5 (.cells #[.int .i64 x.kind, .string (bs x.str), .int .i64 x.num, .slice q2 x.kids.length d2] 26)
    have hb56 := Lib.hid (bA (Below.refl w5.heap.size w5) (.cells #[.int .i64 x.kind, .string (bs x.str), .int .i64 x.num, .slice q2 x.kids.length d2] 26))
    have hN56 := hN5 (.cells #[.int .i64 x.kind, .string (bs x.str), .int .i64 x.num, .slice q2 x.kids.length d2] 26)
    have hneg : decide ((K : Int) < 0) = false := decide_eq_false (by omega)
    have HB56 := Lib.hid hb56
    have HN6 := Lib.hid hN6
    have HN56 := Lib.hid hN56
    have c0 := fun X => (cells4 (hN5 X)).1
    have c1 := fun X => (cells4 (hN5 X)).2.1
    have c2 := fun X => (cells4 (hN5 X)).2.2.1
    have c3 := fun X => (cells4 (hN5 X)).2.2.2
    have HS := Lib.hid (fun W (hW : Below w5.heap.size w5 W) => refsame_any x x q1 q2 d1 d2 W (RepIn.below hW _ hr15.out) (RepIn.below hW _ hr2.out))
    have HS2 := Lib.hid (fun W (hW : Below w5.heap.size w5 W) => ressame_any x x q1 q2 d1 d2 W (RepIn.below hW _ hr15.out) (RepIn.below hW _ hr2.out))
    rw [(same_iff x x).2 rfl] at HS HS2
    unfold repCs at HS HS2
    clear hf2 hN5 hN6 hN56 hb56
    go_wp2_with fail
    clear c0 c1 c2 c3
    generalize w5.alloc (.cells #[.int .i64 x.kind, .string (bs x.str), .int .i64 x.num, .slice q2 x.kids.length d2] 26 (0, 0)) = w6 at *
    refine (HS.out _ HB56.out.out).mono ?_
    rintro e w7 ⟨rfl, hb7⟩
    obtain ⟨y0, y1, y2, y3⟩ := cells4 ((hb7.block _ (Array.getElem?_eq_some_iff.1 HN6.out).1).trans HN6.out)
    obtain ⟨z0, z1, z2, z3⟩ := cells4 ((hb7.block _ (Array.getElem?_eq_some_iff.1 HN56.out).1).trans HN56.out)
    go_wp2_with fail
    refine (HS2.out _ (bT HB56.out.out hb7)).mono ?_
    rintro e w8 ⟨rfl, hb8⟩
    go_wp2
    go_ret
    exact ⟨rfl, bT (bT hBX.out hb7) hb8⟩

/-- RespReads answers true. -/
theorem reads_true (l : List UInt8) (p : Option Addr) (c : Nat) (w : World) (h : Tail w p c l) (hL : Errs w) (hR : Runes w) :
    Calls Tryd.prog 3 #[.slice p l.length c] w fun e w' => e = .returned (.bool true) ∧ Below w.heap.size w w' := by
  by_cases hl : l.length ≤ 4000
  · exact reads_on l hl p c w h hL hR
  · exact reads_long l.length hl p c w hL.tab
end Go.Proofs.YtdeacankicciaaaDoor
