/-
  What RespMakes answers of a short text and few texts: true.
-/
import Derived.Test.YtkcapbjmhimceaaDoorRespMakes
namespace Go.Proofs.YtkcapbjmhimceaaDoor
open Go.RowKit Rp

theorem bulks_ok (ss : List (List UInt8)) (h : ∀ s ∈ ss, s.length ≤ maxLen) : ∀ x ∈ ss.map bulk, Fits x.kind ∧ Fits x.num ∧ x.str.length ≤ maxLen ∧ x.kids = [] := by
  intro x hx
  obtain ⟨s, hs, rfl⟩ := List.mem_map.1 hx
  exact ⟨fitK 3 (by omega) (by omega), fitK 0 (by omega) (by omega), h s hs, rfl⟩

set_option maxHeartbeats 400000 in
theorem list_nil (w : World) :
    Calls Tryd.prog 19 #[.slice none 0 0] w fun e w' => e = .returned (.agg #[.int .i64 5, .string ⟨#[]⟩, .int .i64 0, .slice none 0 0]) ∧ Below w.heap.size w w' := by
  go_enter Tryd.func19, Tryd.ntmps19
  go_wp2_with fail
  refine (copies_nil _ _ _).mono ?_
  rintro e w1 ⟨rfl, hb⟩
  have hbx : w1.heap[w.heap.size]? = some (.cells #[.int .i64 0, .string ⟨#[]⟩, .int .i64 0, .slice none 0 0] 26 (0, 0)) := (hb.block _ (by simp)).trans (heap_alloc_new w _)
  obtain ⟨c0, c1, c2, c3⟩ := cells4 hbx
  have fz := frozen4 hbx
  go_wp2_with fail
  have hE := heap_set4 hbx (.int .i64 5) (.string ⟨#[]⟩) (.int .i64 0) (.slice none 0 0)
  have HE : Below w.heap.size w (set4 w1 w.heap.size (.int .i64 5) (.string ⟨#[]⟩) (.int .i64 0) (.slice none 0 0)) := set4_below (bT (bA (Below.refl _ _) _) hb) (Nat.le_refl _) _ _ _ _
  show bodyPost _ _ _ _ _ (set4 w1 w.heap.size (.int .i64 5) (.string ⟨#[]⟩) (.int .i64 0) (.slice none 0 0))
  generalize set4 w1 w.heap.size (.int .i64 5) (.string ⟨#[]⟩) (.int .i64 0) (.slice none 0 0) = W at *
  obtain ⟨e0, e1, e2, e3⟩ := cells4 hE
  exact bodyPost_ret (v := .agg #[.int .i64 5, .string ⟨#[]⟩, .int .i64 0, .slice none 0 0]) (by simp [results, Tryd.results19, go_sem, e0, e1, e2, e3]) rfl ⟨rfl, HE⟩

set_option maxRecDepth 20000 in
set_option maxHeartbeats 4000000 in
theorem makes_on (s : List UInt8) (n : Int) (hn : Fits n) (ss : List (List UInt8)) (hss : ∀ t ∈ ss, t.length ≤ maxLen) (c : Nat) (p : Option Addr) (w : World) (hA : StrsAt w ss p) (hT : Tens w) (h : s.length ≤ 1000) (hm : ss.length ≤ 50) :
    Calls Tryd.prog 6 #[.string (bs s), .int .i64 n, .slice p ss.length c] w fun e w' => e = .returned (.bool true) ∧ Below w.heap.size w w' := by
  have KA := Lib.hid (show ∀ W, Below w.heap.size w W → _ from fun W h => awake_true W (hT.on h))
  have KS := Lib.hid (show ∀ W, Below w.heap.size w W → _ from fun W hw => strs_any ss (by omega) p c W (fun j hj => by
    obtain ⟨b, o, hp, e⟩ := hA j hj
    exact ⟨b, o, hp, cK hw e⟩))
  have HA := Lib.hid hA
  have HSS := Lib.hid hss
  have hs63 : s.length ≤ maxLen := by unfold maxLen; omega
  have HFL := Lib.hid (show ∀ (W : World) (g : Nat), W.heap[g]? = some (Obj.cells (sixCells (bs s) n) 26 (0, 0)) → _ from fun W g hb => list_flat (six s n) (by simp [six]) (some ⟨g, 0, none⟩) 6 W (six_at hb))
  have HSI := Lib.hid (show ∀ (W : World) (g : Nat), W.heap[g]? = some (Obj.cells (sixCells (bs s) n) 26 (0, 0)) → _ from fun W g hb => six_in hb hs63 hn)
  have HOK := Lib.hid (six_ok s n hs63 hn)
  have hz := bs_size s
  have h1' : decide ((1000 : Int) < (s.length : Int)) = false := decide_eq_false (by omega)
  have h2' : decide ((50 : Int) < (ss.length : Int)) = false := decide_eq_false (by omega)
  obtain ⟨m, hmm⟩ : ∃ m : Nat, m = ss.length := ⟨_, rfl⟩
  rw [← hmm] at hm h2' KS ⊢
  have HM := Lib.hid hmm
  clear hmm hA hss hT h hs63 hn
  generalize hS : bs s = S at *
  have HS := Lib.hid hS
  clear hS
  go_enter Tryd.func6, Tryd.ntmps6
  go_wp2_with fail
  refine (KA.out _ (Below.refl _ _)).mono ?_
  rintro e w1 ⟨rfl, hb1⟩
  go_wp2_with fail
  refine (KS.out _ hb1).mono ?_
  rintro e w2 ⟨v2, rfl, hmade, hb2⟩
  obtain ⟨q, d, rfl, hrep⟩ := hmade.rep (bulks_ok ss HSS.out)
  have hL2 := bT hb1 hb2
  unfold repCs
  simp only [Rep.kind, Rep.str, Rep.num, Rep.kids, List.length_map]
  rw [← HM.out]
  have HR := Lib.hid hrep
  clear hrep hmade hb2
  have hne : ((m : Int) != (m : Int)) = false := by simp
  go_wp2_with fail
  have hbox : (w2.alloc (.cells #[.int .i64 5, .string (bs []), .int .i64 0, .slice q m d] 26)).heap[w2.heap.size]? = some (.cells #[.int .i64 5, .string (bs []), .int .i64 0, .slice q m d] 26 (0, 0)) := heap_alloc_new w2 _
  go_loopw [8] (fun i wr => ∃ (j : Nat), j ≤ m ∧ i = .int .i64 j ∧ wr.heap[w2.heap.size]? = some (.cells #[.int .i64 5, .string (bs []), .int .i64 0, .slice q m d] 26 (0, 0)) ∧ Below w2.heap.size w2 wr) (fun i _ => m - (intOf i).toNat)
  case atStart => exact ⟨0, Nat.zero_le _, rfl, hbox, bA (Below.refl _ _) _⟩
  case round =>
    clear hbox
    obtain ⟨j, hj, rfl, hbox, hB⟩ := hrel
    have hL := bT hL2 hB
    have hbl := (Array.getElem?_eq_some_iff.1 hbox).1
    by_cases hjl : j < m
    · have hd1 : decide ((j : Int) < (m : Int)) = true := decide_eq_true (by omega)
      have hja : j < ss.length := by have := HM.out; omega
      have hja' : j < (ss.map bulk).length := by simpa using hja
      obtain ⟨b, o, hp, e0⟩ := HA.out j hja
      obtain ⟨b', o', q', e', hq, hc, hi⟩ := HR.out.kid j hja'
      have hi2 := RepIn.below hB _ hi
      have hl1 : ss[j].length ≤ maxLen := HSS.out _ (List.getElem_mem hja)
      have hcall : ∀ W, Below wr.heap.size wr W → Calls Tryd.prog 11 #[.agg (repCs (bulk ss[j]) q' e'), .agg (repCs (bulk ss[j]) none 0)] W fun e w' => e = .returned (.bool true) ∧ Below W.heap.size W w' := fun W hb => by
        have e1 : (ss.map bulk)[j] = bulk ss[j] := List.getElem_map ..
        have h5 := refsame_any (bulk ss[j]) (bulk ss[j]) q' none e' 0 W (by rw [← e1]; exact RepIn.below hb _ hi2) (leaf_in W 3 ss[j] 0 (fitK 3 (by omega) (by omega)) (fitK 0 (by omega) (by omega)) hl1)
        rw [(same_iff (bulk ss[j]) (bulk ss[j])).2 rfl] at h5
        exact h5
      rw [show (ss.map bulk)[j] = bulk ss[j] from List.getElem_map ..] at hc
      obtain ⟨f0, f1, f2, f3⟩ := hc.below hB
      have e0 := cK hL e0
      clear hi hi2 hc hl1
      generalize ss[j] = t at *
      unfold repCs at hcall
      simp only [bulk, Rep.kind, Rep.str, Rep.num, Rep.kids, List.length_nil] at hcall f0 f1 f2 f3
      generalize bs t = T at *
      subst hp hq
      obtain ⟨-, -, -, c3⟩ := cells4 hbox
      have KK : Hid (∀ w', Below wr.heap.size wr w' → Below wr.heap.size wr w' ∧ w'.cell? ⟨w2.heap.size, 3, none⟩ = some (.slice (some ⟨b', o', none⟩) m d) ∧ w'.cell? ⟨b, o + j, none⟩ = some (.string T) ∧ w'.cell? ⟨b', o' + j * 4, none⟩ = some (.int .i64 3) ∧ w'.cell? ⟨b', o' + j * 4 + 1, none⟩ = some (.string T) ∧ w'.cell? ⟨b', o' + j * 4 + 2, none⟩ = some (.int .i64 0) ∧ w'.cell? ⟨b', o' + j * 4 + 3, none⟩ = some (.slice q' 0 e')) := Lib.hid fun w' h => ⟨h, cK h c3, cK h e0, cK h f0, cK h f1, cK h f2, cK h f3⟩
      have HCL := Lib.hid hcall
      have i0 : (0 : Int) ≤ (j : Int) := by omega
      have i1 : (j : Int) < (m : Int) := by omega
      clear hcall hja hja'
      go_wp2_with fail
      go_region_held3 (fun w' => Below wr.heap.size wr w' ∧ w'.cell? ⟨w2.heap.size, 3, none⟩ = some (.slice (some ⟨b', o', none⟩) m d) ∧ w'.cell? ⟨b, o + j, none⟩ = some (.string T) ∧ w'.cell? ⟨b', o' + j * 4, none⟩ = some (.int .i64 3) ∧ w'.cell? ⟨b', o' + j * 4 + 1, none⟩ = some (.string T) ∧ w'.cell? ⟨b', o' + j * 4 + 2, none⟩ = some (.int .i64 0) ∧ w'.cell? ⟨b', o' + j * 4 + 3, none⟩ = some (.slice q' 0 e'))
        ((first | exact KK.out _ (bD (Below.refl _ _)) | exact KK.out _ (bT (bD (Below.refl _ _)) hb9)))
        ((go_at_call 11; refine (HCL.out _ (bD (Below.refl _ _))).mono ?_; rintro e9 w9 ⟨rfl, hb9⟩))
      have hb10 := bT (bD (Below.refl wr.heap.size wr)) hb9
      rename_i hHeld
      clear hHeld KK HCL hb9 c3 e0 f0 f1 f2 f3
      go_wp2
      go_roundw
      case rel => exact ⟨j + 1, by omega, by go_num, (hb10.block _ hbl).trans hbox, bT hB hb10⟩
      case measure => simp [intOf]; omega
    · have hd1 : decide ((j : Int) < (m : Int)) = false := decide_eq_false (by omega)
      clear hbox
      go_wp2_with fail
      refine (text_any _ _).mono ?_
      rintro e w3 ⟨rfl, hb3⟩
      go_wp2_with fail
      refine (wrong_any _ _).mono ?_
      rintro e w4 ⟨rfl, hb4⟩
      go_wp2_with fail
      refine (int_any _ _).mono ?_
      rintro e w5 ⟨rfl, hb5⟩
      go_wp2_with fail
      refine (str_any _ _).mono ?_
      rintro e w6 ⟨rfl, hb6⟩
      go_wp2_with fail
      refine (none_any _).mono ?_
      rintro e w7 ⟨rfl, hb7⟩
      go_wp2_with fail
      refine (list_nil _).mono ?_
      rintro e w8 ⟨rfl, hb8⟩
      have hL8 := bT (bT (bT (bT (bT (bT hL hb3) hb4) hb5) hb6) hb7) hb8
      clear hb3 hb4 hb5 hb6 hb7 hb8
      have hsix := heap_alloc_new w8 (.cells (sixCells S n) 26)
      have h9 := HFL.out _ _ hsix
      rw [show (six s n).length = 6 from rfl] at h9
      have HH := Lib.hid h9
      clear h9 hsix
      unfold sixCells at HH
      go_wp2_with fail
      refine HH.out.mono ?_
      rintro e w9 ⟨v9, rfl, hm9, hb9⟩
      obtain ⟨q9, c9, rfl, hr9⟩ := hm9.rep HOK.out
      have hL9 := bT (bA hL8 _) hb9
      have hsame : Calls Tryd.prog 11 #[.agg #[.int .i64 5, .string (bs []), .int .i64 0, .slice q9 6 c9], .agg #[.int .i64 5, .string ⟨#[]⟩, .int .i64 0, .slice (some ⟨w9.heap.size + 1, 0, none⟩) 6 6]] ((w9.alloc (.cells #[.int .i64 5, .string (bs []), .int .i64 0, .slice q9 6 c9] 26)).alloc (.cells (sixCells S n) 26)) fun e w' => e = .returned (.bool true) ∧ Below ((w9.alloc (.cells #[.int .i64 5, .string (bs []), .int .i64 0, .slice q9 6 c9] 26)).alloc (.cells (sixCells S n) 26)).heap.size ((w9.alloc (.cells #[.int .i64 5, .string (bs []), .int .i64 0, .slice q9 6 c9] 26)).alloc (.cells (sixCells S n) 26)) w' := by
        have h5 := refsame_any (.mk 5 [] 0 (six s n)) (.mk 5 [] 0 (six s n)) q9 (some ⟨w9.heap.size + 1, 0, none⟩) c9 6 ((w9.alloc (.cells #[.int .i64 5, .string (bs []), .int .i64 0, .slice q9 6 c9] 26)).alloc (.cells (sixCells S n) 26)) (RepIn.below (bA (bA (Below.refl _ _) _) _) _ hr9) (HSI.out _ _ (two_heap w9 _ _ _ rfl))
        rw [(same_iff _ _).2 rfl] at h5
        exact h5
      unfold sixCells at hsame
      have HSM := Lib.hid hsame
      unfold repCs
      simp only [Rep.kind, Rep.str, Rep.num, Rep.kids]
      rw [show (six s n).length = 6 from rfl]
      clear hsame hr9 hm9 HH hb9
      go_wp2_with fail
      refine HSM.out.mono ?_
      rintro e w10 ⟨rfl, hb10⟩
      have hL10 := bT (bA (bA hL9 _) _) hb10
      clear HSM hb10
      go_wp2
      go_ret
      exact ⟨rfl, hL10⟩

theorem makes_true (S : ByteArray) (n : Int) (hn : Fits n) (ss : List (List UInt8)) (hss : ∀ t ∈ ss, t.length ≤ maxLen) (c : Nat) (p : Option Addr) (w : World) (hA : StrsAt w ss p) (hT : Tens w) :
    Calls Tryd.prog 6 #[.string S, .int .i64 n, .slice p ss.length c] w fun e w' => e = .returned (.bool true) ∧ Below w.heap.size w w' := by
  by_cases h1 : S.size ≤ 1000
  · by_cases h2 : ss.length ≤ 50
    · rw [← bs_list S]
      exact makes_on S.data.toList n hn ss hss c p w hA hT (by simpa using h1) h2
    · exact makes_l S n ss.length c p w hT h1 (by omega)
  · exact makes_s S n ss.length c p w hT (by omega)
end Go.Proofs.YtkcapbjmhimceaaDoor
