/-
  DiskKeeps: what is synced outlives crashes, where nothing is written behind it.
-/
import Derived.Test.YtaogfokdllmfeaaDiskAwake
namespace Go.Proofs.Ytaogfokdllmfeaa
open Go.RowKit Go.Shelf
attribute [local go_sem] Oper.semAt_some

/-- The bytes of an argument. -/
def BytesAt (w : World) (p : Option Addr) (l : List UInt8) : Prop := ∀ (j : Nat) (h : j < l.length), ∃ b o, p = some ⟨b, o, none⟩ ∧ w.cell? ⟨b, o + j, none⟩ = some (.int .u8 ((l[j].toNat : Nat) : Int))
def GridAt (w : World) (P : Option Addr) (N : Nat) (ps : Nat → Option Addr) (kss : Nat → List Int) (cs : Nat → Nat) : Prop := ∀ j, j < N → ∃ b o, P = some ⟨b, o, none⟩ ∧ w.cell? ⟨b, o + j, none⟩ = some (.slice (ps j) (kss j).length (cs j)) ∧ IntsAt w (ps j) (kss j)
theorem cell_below {w w' : World} (h : Below w.heap.size w w') {a : Addr} {v : Value} (hc : w.cell? a = some v) : w'.cell? a = some v := by
  refine (World.cell?_of_block ?_).trans hc
  refine h.block a.block ?_
  rcases Nat.lt_or_ge a.block w.heap.size with h1 | h1
  · exact h1
  · simp [World.cell?, Array.getElem?_eq_none h1] at hc

theorem kSet (K : Nat → Bool) (M a : Nat) : (kCells K M).set a (.bool true) = kCells (fun j => K j || decide (j = a)) M := by
  unfold kCells
  refine List.ext_getElem (by simp) (fun i h1 h2 => ?_)
  by_cases h : a = i
  · subst h
    simp
  · rw [List.getElem_set_ne h]
    simp [Ne.symm h]
theorem done_other {S : List Sec} {ws : List Wq} {s : Nat} (h : ∀ x ∈ ws, x.1 ≠ s) : (doneS S ws)[s]? = S[s]? := by
  induction ws generalizing S with
  | nil => rfl
  | cons x ws ih =>
    show (doneS (S.set x.1 x.2) ws)[s]? = _
    rw [ih (fun y hy => h y (List.mem_cons_of_mem _ hy)), List.getElem?_set_ne (h x List.mem_cons_self)]
theorem keptF_sub (K : Nat → Bool) (ws : List Wq) : ∀ x ∈ keptF K ws, x ∈ ws := fun x hx => by
  unfold keptF at hx
  obtain ⟨y, hy, rfl⟩ := List.mem_map.1 hx
  exact (List.mem_zipIdx' (List.mem_filter.1 hy).1).2 ▸ List.getElem_mem _

/-- A sector in a row of sectors, as a string. -/
theorem conv_sec {w : World} {b s cap : Nat} {F : List Sec} {sv : Sec} (hb : w.heap[b]? = some (.cells (dCells F).toArray 5 (0, 0))) (hF : ∀ x ∈ F, x.length = 64) (hs : F[s]? = some sv) : (convert 22 9 (.slice (some ⟨b, 64 * s, none⟩) 64 cap)).run Try.prog w = .ok (.string (bs sv)) w := by
  obtain ⟨hi, hv⟩ := List.getElem?_eq_some_iff.1 hs
  have hl : sv.length = 64 := by rw [← hv]; exact hF _ (List.getElem_mem hi)
  have := run_convert_bytes_back (P := Try.prog) w 22 9 5 ⟨b, 64 * s, none⟩ cap sv Try.underlying22 Try.underlying5 Try.underlying9 (fun j hj => by
    rw [Addr.add_mid, cell_in hb, List.getElem?_toArray]
    have h2 := flat_at bCells 64 F s hi (fun x hx => by rw [bCells_len, hF x hx]) j (by omega)
    unfold dCells
    rw [Nat.mul_comm 64 s, h2, hv]
    unfold bCells
    rw [List.getElem?_map, List.getElem?_eq_getElem hj]
    rfl)
  rw [hl] at this
  exact this

set_option maxRecDepth 100000 in
set_option maxHeartbeats 8000000 in
theorem keeps_any (p : Option Addr) (c : Nat) (l : List UInt8) (P : Option Addr) (N C : Nat) (ps : Nat → Option Addr) (kss : Nat → List Int) (cs : Nat → Nat) (w : World) (hl : BytesAt w p l) (hg : GridAt w P N ps kss cs) :
    Calls Try.prog 3 #[.slice p l.length c, .slice P N C] w fun e w' => e = .returned (.bool true) ∧ Below w.heap.size w w' := by
  obtain ⟨n, hn⟩ : ∃ n, n = l.length := ⟨_, rfl⟩
  have HNL := Lib.hid hn
  have HL := Lib.hid hl
  have HG := Lib.hid hg
  rw [← hn]
  clear hn hl hg
  go_enter Try.func3, Try.ntmps3
  go_wp2_with fail
  refine (awake_any w).mono ?_
  rintro e w1 ⟨rfl, hb1⟩
  by_cases hlen : n ≤ 20
  · have d1 : decide ((20 : Int) < (n : Int)) = false := decide_eq_false (by omega)
    have d1' : decide (20 < n) = false := decide_eq_false (by omega)
    by_cases hlen2 : N ≤ 5
    · have d2 : decide ((5 : Int) < (N : Int)) = false := decide_eq_false (by omega)
      have d2' : decide (5 < N) = false := decide_eq_false (by omega)
      have HB1 := Lib.hid hb1
      clear hb1
      go_wp2_with fail
      refine (new_any 8 (by decide) (by decide) made8 w1).mono ?_
      rintro e w2 ⟨rfl, hD2, hb2⟩
      have HD2 := Lib.hid hD2
      have HB2 := Lib.hid (bT HB1.out hb2)
      have hs1 := HB1.out.size
      clear hD2 hb2
      obtain ⟨g, hg⟩ : ∃ g, w1.heap.size = g := ⟨_, rfl⟩
      rw [hg] at HD2 hs1 ⊢
      have hDg : g + 1 ≠ g := by omega
      clear hg
      go_wp2_with fail
      refine (filled_any 7 8 0 512 (by decide) (by decide) (by decide) rfl w2).mono ?_
      rintro e w3 ⟨rfl, hr3, hb3⟩
      have HD3 := Lib.hid (HD2.out.on hb3)
      have HB3 := Lib.hid (bT HB2.out hb3)
      have HR3 := Lib.hid hr3
      clear hr3 hb3
      go_wp2_with fail
      have hw1 := write_any (g + 1) g (zeroS 8) (.slice none 0 0) [] 0 w2.heap.size 512 (List.replicate 512 (UInt8.ofNat 7)) (by simp) (by simp) (by decide) (by simp [zeroS]) (by simp) w3 HD3.out hDg HR3.out
      rw [List.length_replicate] at hw1
      refine hw1.mono ?_
      clear hw1
      rintro e w4 ⟨rfl, v4, hD4, hc4, ho4⟩
      have HD4 := Lib.hid hD4
      have HB4 := Lib.hid (hc4.on HB3.out HB3.out.size (fun k hk => by
        rcases hk with h | h
        · omega
        · cases h))
      clear hD4 hc4 ho4
      go_wp2_with fail
      refine (sync_any (g + 1) g _ v4 _ (by rw [List.nil_append, piecesW_len]; simp) w4 HD4.out hDg).mono ?_
      rintro e w5 ⟨rfl, hD5, hc5⟩
      have HB5 := Lib.hid (hc5.on HB4.out HB4.out.size (fun k hk => by omega))
      obtain ⟨sv, hsv⟩ : ∃ sv : List UInt8, sv = List.replicate 64 (UInt8.ofNat 7) := ⟨_, rfl⟩
      have h8 : doneS (zeroS 8) ([] ++ piecesW 0 (List.replicate 512 (UInt8.ofNat 7))) = List.replicate 8 sv := by
        have : piecesW 0 (List.replicate 512 (UInt8.ofNat 7)) = [(0, sv), (1, sv), (2, sv), (3, sv), (4, sv), (5, sv), (6, sv), (7, sv)] := by
          refine List.ext_getElem (by rw [piecesW_len]; simp) (fun i h1 h2 => ?_)
          have h3 : i < 8 := h2
          rw [piecesW_at, hsv]
          obtain rfl | rfl | rfl | rfl | rfl | rfl | rfl | rfl : i = 0 ∨ i = 1 ∨ i = 2 ∨ i = 3 ∨ i = 4 ∨ i = 5 ∨ i = 6 ∨ i = 7 := by omega
          all_goals simp
        rw [this]
        rfl
      rw [h8] at hD5
      have HD5 := Lib.hid hD5
      clear hD5 hc5 h8
      go_wp2_with fail
      have hT6 := heap_new w5 (.cells #[.bool false, .bool false, .bool false, .bool false, .bool false, .bool false, .bool false, .bool false] 32)
      have hT6' : (w5.alloc (.cells #[.bool false, .bool false, .bool false, .bool false, .bool false, .bool false, .bool false, .bool false] 32)).heap[w5.heap.size]? = some (.cells (kCells (fun _ => false) 8).toArray 32 (0, 0)) := hT6
      have hb6 := bA (Below.refl w5.heap.size w5) (.cells #[.bool false, .bool false, .bool false, .bool false, .bool false, .bool false, .bool false, .bool false] 32)
      have HD6 := Lib.hid (HD5.out.on hb6)
      have HB6 := Lib.hid (bT HB5.out hb6)
      have hTg : g + 1 < w5.heap.size := (Array.getElem?_eq_some_iff.1 HD5.out.box).1
      have hTw := HB5.out.size
      clear hT6 hb6
      generalize w5.alloc (.cells #[.bool false, .bool false, .bool false, .bool false, .bool false, .bool false, .bool false, .bool false] 32) = w6 at *
      obtain ⟨T, hT⟩ : ∃ T, w5.heap.size = T := ⟨_, rfl⟩
      rw [hT] at hT6' hTg hTw ⊢
      clear hT
      have HT6 := Lib.hid hT6'
      clear hT6'
      go_loopw [8] (fun s8 wr => ∃ (i : Nat) (v : Value) (ws : List Wq) (K : Nat → Bool), i ≤ n ∧ s8 = .int .i64 i ∧ Hid (DiskAt wr (g + 1) g (List.replicate 8 sv) v ws) ∧ ws.length = i ∧ Hid (∀ x ∈ ws, K x.1 = true) ∧ Hid (wr.heap[T]? = some (.cells (kCells K 8).toArray 32 (0, 0))) ∧ Hid (Below w.heap.size w wr)) (fun s8 _ => n - (intOf s8).toNat)
      case atStart => exact ⟨0, _, [], fun _ => false, Nat.zero_le _, rfl, HD6, rfl, Lib.hid (fun x hx => by simp at hx), HT6, HB6⟩
      case round =>
        obtain ⟨i, v, ws, K, hi, rfl, HDR, hwl, HK, HT, HBR⟩ := hrel
        by_cases hlt : i < n
        · have q1 : decide ((i : Int) < (n : Int)) = true := decide_eq_true (by omega)
          have q1' : decide (i < n) = true := decide_eq_true hlt
          have hil : i < l.length := by have := HNL.out; omega
          obtain ⟨b, o, rfl, hcell⟩ := HL.out i hil
          have hcell' := cell_below HBR.out hcell
          have hy256 : l[i].toNat < 256 := UInt8.toNat_lt _
          obtain ⟨y, hy⟩ : ∃ y, l[i].toNat = y := ⟨_, rfl⟩
          rw [hy] at hcell' hy256
          clear hcell hy
          obtain ⟨a, ha⟩ : ∃ a, a = y % 8 := ⟨_, rfl⟩
          have r1 : ((y : Int)).tmod 8 = (a : Int) := by rw [Int.tmod_eq_emod_of_nonneg (by omega)]; omega
          have r2 : IntKind.i64.wrap (y : Int) = (y : Int) := by rw [IntKind.wrap_i64]; omega
          have r3 : IntKind.u8.wrap (20 + (i : Int)) = 20 + (i : Int) := by rw [IntKind.wrap_u8]; omega
          have r4 : IntKind.i64.wrap (20 + (i : Int)) = 20 + (i : Int) := by rw [IntKind.wrap_i64]; omega
          have r5 : IntKind.i64.wrap ((i : Int) + 1) = (i : Int) + 1 := by rw [IntKind.wrap_i64]; omega
          have ha8 : a < 8 := by omega
          have b1 : (0 : Int) ≤ (a : Int) := by omega
          have b2 : (a : Int) < 8 := by omega
          have kT : wr.cell? ⟨T, a, none⟩ = some (.bool (K a)) := by rw [cell_in HT.out, List.getElem?_toArray]; exact kCells_at K 8 a ha8
          have fT := frozen_in HT.out
          clear ha
          go_wp2_with fail
          have hc7 := Chg.setCell wr ⟨T, a, none⟩ (.bool true)
          have hT7 : (wr.setCell ⟨T, a, none⟩ (.bool true)).heap[T]? = some (.cells (kCells (fun j => K j || decide (j = a)) 8).toArray 32 (0, 0)) := by
            rw [setCell_eq_setRow wr T a _ _ _ _ HT.out, setRow_heap wr T _ _ _ _ HT.out, List.setIfInBounds_toArray, kSet]
          have hvT : v.ownBlock ≠ some T := own_ne HDR.out.row HT.out (by decide)
          have HD7 := Lib.hid (HDR.out.chg hc7 (by show ¬ (g + 1 = T); omega) (by show ¬ (g = T); omega) (fun k hk e => hvT (by rw [hk]; exact congrArg some e)))
          have HB7 := Lib.hid (hc7.on HBR.out HBR.out.size (fun k hk => by rw [show k = T from hk]; exact hTw))
          have HT7 := Lib.hid hT7
          clear hc7 hT7 kT fT
          generalize wr.setCell ⟨T, a, none⟩ (.bool true) = w7 at *
          have hf := filled_any (20 + i) 1 3 61 (by omega) (by decide) (by decide) rfl w7
          rw [show ((20 + i : Nat) : Int) = 20 + (i : Int) by omega] at hf
          refine hf.mono ?_
          clear hf
          rintro e w8 ⟨rfl, hr8, hb8⟩
          have HD8 := Lib.hid (HD7.out.on hb8)
          have HB8 := Lib.hid (bT HB7.out hb8)
          have HR8 := Lib.hid hr8
          have HT8 := Lib.hid ((Chg.below hb8 (fun _ => False)).box HT7.out (fun e => e))
          clear hr8 hb8
          go_wp2_with fail
          have hw1 := write_any (g + 1) g (List.replicate 8 sv) v ws a w7.heap.size 61 (List.replicate 61 (UInt8.ofNat (20 + i))) (by simp) (by simp) (by decide) (by simp; omega) (by simp; omega) w8 HD8.out hDg HR8.out
          rw [List.length_replicate, pieces61] at hw1
          refine hw1.mono ?_
          clear hw1
          rintro e w9 ⟨rfl, v9, hD9, hc9, ho9⟩
          have HD9 := Lib.hid hD9
          have HB9 := Lib.hid (hc9.on HB8.out HB8.out.size (fun k hk => by
            rcases hk with h | h
            · omega
            · have := (HD8.out.row.lt k h).1
              omega))
          have HT9 := Lib.hid (hc9.box HT8.out (fun e => by
            rcases e with h | h
            · omega
            · exact hvT h))
          have HK9 := Lib.hid (show ∀ x ∈ ws ++ [(a, List.replicate 61 (UInt8.ofNat (20 + i)) ++ [0, 0, 0])], (K x.1 || decide (x.1 = a)) = true from fun x hx => by
            rcases List.mem_append.1 hx with h | h
            · rw [HK.out x h]
              rfl
            · rw [List.mem_singleton.1 h]
              simp)
          clear hD9 hc9 ho9
          go_wp2_with fail
          go_roundw
          case rel => exact ⟨i + 1, v9, _, fun j => K j || decide (j = a), by omega, by go_num, HD9, by simp [hwl], HK9, HT9, HB9⟩
          case measure => simp [intOf]; omega
        · have q1 : decide ((i : Int) < (n : Int)) = false := decide_eq_false (by omega)
          have q1' : decide (i < n) = false := decide_eq_false hlt
          have hin : i = n := by omega
          subst hin
          have HS0 := Lib.hid (show ∀ s, s < 8 → K s = false → (List.replicate 8 sv)[s]? = some sv ∧ ∀ x ∈ ws, x.1 ≠ s from fun s hs hk => ⟨by rw [List.getElem?_replicate, if_pos hs], fun x hx e => by rw [← e, HK.out x hx] at hk; cases hk⟩)
          have hwl0 : ws.length ≤ 20 := by omega
          have hS0 : (List.replicate 8 sv).length = 8 := by simp
          go_wp2_with fail
          go_loopw [10] (fun s10 wr => ∃ (j : Nat) (v : Value) (ws : List Wq) (S : List Sec), j ≤ N + 1 ∧ s10 = .int .i64 j ∧ Hid (DiskAt wr (g + 1) g S v ws) ∧ S.length = 8 ∧ ws.length ≤ 20 ∧ Hid (∀ s, s < 8 → K s = false → S[s]? = some sv ∧ ∀ x ∈ ws, x.1 ≠ s) ∧ Hid (wr.heap[T]? = some (.cells (kCells K 8).toArray 32 (0, 0))) ∧ Hid (Below w.heap.size w wr)) (fun s10 _ => N + 1 - (intOf s10).toNat)
          case atStart => exact ⟨0, v, ws, _, Nat.zero_le _, rfl, HDR, hS0, hwl0, HS0, HT, HBR⟩
          clear hwl0 hS0 HS0 HDR hwl HK HT HBR hlt q1 q1'
          clear v ws
          case round =>
            obtain ⟨j, v, ws, S, hj, rfl, HDR, hS8, hwl, HS, HT, HBR⟩ := hrel
            have r5 : IntKind.i64.wrap ((j : Int) + 1) = (j : Int) + 1 := by rw [IntKind.wrap_i64]; omega
            by_cases hjN : j ≤ N
            · have q1 : decide ((j : Int) ≤ (N : Int)) = true := decide_eq_true (by omega)
              have q1' : decide (j ≤ N) = true := decide_eq_true hjN
              by_cases hjl : j < N
              · have q2 : decide ((j : Int) < (N : Int)) = true := decide_eq_true (by omega)
                have q2' : decide (j < N) = true := decide_eq_true hjl
                obtain ⟨b, o, rfl, hcell, hints⟩ := HG.out j hjl
                have hcell' := cell_below HBR.out hcell
                have HIK := Lib.hid (show IntsAt wr (ps j) (kss j) from hints.chg (Chg.below HBR.out (fun _ => False)) (fun _ _ _ e => e))
                clear hcell hints
                obtain ⟨m, hm⟩ : ∃ m, m = (kss j).length := ⟨_, rfl⟩
                rw [← hm] at hcell'
                have HMM := Lib.hid hm
                clear hm
                by_cases h60 : m ≤ 60
                · have q3 : decide ((60 : Int) < (m : Int)) = false := decide_eq_false (by omega)
                  have q3' : decide (60 < m) = false := decide_eq_false (by omega)
                  go_wp2_with fail
                  have hcr := crash_any (g + 1) g S v ws (by omega) (ps j) (cs j) (kss j) (by have := HMM.out; omega) wr HDR.out hDg HIK.out
                  rw [keptOf_eq, ← HMM.out] at hcr
                  refine hcr.mono ?_
                  clear hcr
                  rintro e w5 ⟨rfl, hD5, hc5⟩
                  have HDQ := Lib.hid hD5
                  have HBQ := Lib.hid (hc5.on HBR.out HBR.out.size (fun k hk => by omega))
                  have HTQ := Lib.hid (hc5.box HT.out (by omega))
                  have HSQ := Lib.hid (show ∀ s, s < 8 → K s = false → (doneS S (keptF (isKept (kss j)) ws))[s]? = some sv ∧ ∀ x ∈ ([] : List Wq), x.1 ≠ s from fun s hs hk => ⟨by rw [done_other (fun x hx => (HS.out s hs hk).2 x (keptF_sub _ _ x hx))]; exact (HS.out s hs hk).1, fun x hx => by simp at hx⟩)
                  have hSQ8 : (doneS S (keptF (isKept (kss j)) ws)).length = 8 := by rw [doneS_len, hS8]
                  have hwQ : ([] : List Wq).length ≤ 20 := by simp
                  clear hD5 hc5 HDR HT HBR HS hwl hcell' HIK hS8
                  generalize doneS S (keptF (isKept (kss j)) ws) = SQ at *
                  generalize hvq : Value.slice none 0 0 = vQ at HDQ
                  obtain ⟨wsQ, hwsQ⟩ : ∃ wsQ : List Wq, [] = wsQ := ⟨_, rfl⟩
                  rw [hwsQ] at HDQ HSQ hwQ
                  clear hwsQ hvq
                  go_wp2_with fail
                  have hrd := read_any (g + 1) g SQ vQ wsQ (by omega) (by omega) w5 HDQ.out
                  rw [hSQ8] at hrd
                  refine hrd.mono ?_
                  clear hrd
                  rintro e wz ⟨R, rfl, hR, hRl, hbz⟩
                  have HBZ := Lib.hid (bT HBQ.out hbz)
                  have HDZ := Lib.hid (HDQ.out.on hbz)
                  have HTZ := Lib.hid ((Chg.below hbz (fun _ => False)).box HTQ.out (fun e => e))
                  have HRZ := Lib.hid hR
                  clear hR hbz
                  have hFS : ∀ s, s < 8 → K s = false → (doneS SQ wsQ)[s]? = some sv := fun s hs hk => (done_other (HSQ.out s hs hk).2).trans (HSQ.out s hs hk).1
                  have hF64 : ∀ x ∈ doneS SQ wsQ, x.length = 64 := doneS_64 HDQ.out.s64 (fun x hx => (HDQ.out.a64 x hx).2)
                  generalize doneS SQ wsQ = F at *
                  clear HDQ HBQ HTQ
                  have hf7 : ∀ W : World, Calls Try.prog 8 #[.int .u8 7, .int .i64 1, .int .i64 0] W fun e w' => e = .returned (.slice (some ⟨W.heap.size, 0, none⟩) 64 64) ∧ w'.heap[W.heap.size]? = some (.cells (bCells sv).toArray 5 (0, 0)) ∧ Below W.heap.size W w' := fun W => by
                    rw [hsv]
                    exact filled_any 7 1 0 64 (by decide) (by decide) (by decide) rfl W
                  have hc7 : ∀ b (X : World), X.heap[b]? = some (.cells (bCells sv).toArray 5 (0, 0)) → (convert 22 9 (.slice (some ⟨b, 0, none⟩) 64 64)).run Try.prog X = .ok (.string (bs sv)) X := fun b X hX => by
                    have := conv_row hX
                    rwa [show sv.length = 64 by rw [hsv]; simp] at this
                  have HFS := Lib.hid hFS
                  have HF64 := Lib.hid hF64
                  clear hFS hF64
                  go_wp2_with fail
                  go_loopw [13] (fun s13 wx => ∃ s : Nat, s ≤ 8 ∧ s13 = .int .i64 s ∧ Hid (Below wz.heap.size wz wx)) (fun s13 _ => 8 - (intOf s13).toNat)
                  case atStart => exact ⟨0, by decide, rfl, Lib.hid (Below.refl _ _)⟩
                  case round =>
                    obtain ⟨s, hs, rfl, HBX⟩ := hrel
                    by_cases hs8 : s < 8
                    · have q4 : decide ((s : Int) < 8) = true := decide_eq_true (by omega)
                      have q4' : decide (s < 8) = true := decide_eq_true hs8
                      have v1 : IntKind.i64.wrap (64 * (s : Int)) = ((64 * s : Nat) : Int) := by rw [IntKind.wrap_i64]; omega
                      have v2 : IntKind.i64.wrap (((64 * s : Nat) : Int) + 64) = ((64 * s : Nat) : Int) + 64 := by rw [IntKind.wrap_i64]; omega
                      have v3 : IntKind.i64.wrap ((s : Int) + 1) = (s : Int) + 1 := by rw [IntKind.wrap_i64]; omega
                      have b1 : (0 : Int) ≤ (s : Int) := by omega
                      have b2 : (s : Int) < 8 := by omega
                      have kT : wr.cell? ⟨T, s, none⟩ = some (.bool (K s)) := by rw [cell_in ((Chg.below HBX.out (fun _ => False)).box HTZ.out (fun e => e)), List.getElem?_toArray]; exact kCells_at K 8 s hs8
                      cases hK : K s with
                      | true =>
                        rw [hK] at kT
                        have kT' : wr.drew.cell? ⟨T, s, none⟩ = some (.bool true) := kT
                        have HBX2 := Lib.hid (bD HBX.out)
                        go_wp2_with fail
                        refine wp_region_noPanic ?_
                        refine wp_region_held_drew (S := fun X => Below wz.heap.size wz X ∧ X.cell? ⟨T, s, none⟩ = some (.bool true)) (by kernel_rfl) (⟨HBX2.out, kT'⟩) (fun hHeld => ?_)
                        refine wpAnyH_take (i := 0) (v := ?_) rfl (by kernel_rfl) (by kernel_rfl) (by kernel_rfl) (fun _ _ _ h => h) (Or.inl ⟨by rfl, ?_⟩) (by assumption) ?_
                        rotate_left
                        · (intro w hSw; (try dsimp only at hSw); go_simp; try (with_reducible rfl))
                        try simp only [Act.put, List.setIfInBounds_toArray, List.set_cons_zero, List.set_cons_succ, List.getElem_toArray, List.getElem_cons_zero]
                        refine wpAnyH_take (i := 1) (v := ?_) rfl (by kernel_rfl) (by kernel_rfl) (by kernel_rfl) (fun _ _ _ h => h) (Or.inl ⟨by rfl, ?_⟩) (by assumption) ?_
                        rotate_left
                        · (intro w hSw; (try dsimp only at hSw); go_simp; try (with_reducible rfl))
                        try simp only [Act.put, List.setIfInBounds_toArray, List.set_cons_zero, List.set_cons_succ, List.getElem_toArray, List.getElem_cons_zero, List.getElem_cons_succ]
                        refine wpAnyH_take (i := 2) (v := ?_) rfl (by kernel_rfl) (by kernel_rfl) (by kernel_rfl) (fun _ _ _ h => h) (Or.inl ⟨by rfl, ?_⟩) (by assumption) ?_
                        rotate_left
                        · (intro w hSw; (try dsimp only at hSw); go_simp; try (with_reducible rfl))
                        try simp only [Act.put, List.setIfInBounds_toArray, List.set_cons_zero, List.set_cons_succ, List.getElem_toArray, List.getElem_cons_zero, List.getElem_cons_succ]
                        refine wpAnyH_take (i := 3) (v := ?_) rfl (by kernel_rfl) (by kernel_rfl) (by kernel_rfl) (fun _ _ _ h => h) (Or.inl ⟨by rfl, ?_⟩) (by assumption) ?_
                        rotate_left
                        · (intro w hSw; (try dsimp only at hSw); go_simp; try (with_reducible rfl))
                        try simp only [Act.put, List.setIfInBounds_toArray, List.set_cons_zero, List.set_cons_succ, List.getElem_toArray, List.getElem_cons_zero, List.getElem_cons_succ]
                        refine wpAnyH_take (i := 4) (v := ?_) rfl (by kernel_rfl) (by kernel_rfl) (by kernel_rfl) (fun _ _ _ h => h) (Or.inl ⟨by rfl, ?_⟩) (by assumption) ?_
                        rotate_left
                        · (intro w hSw; (try dsimp only at hSw); go_simp; try (with_reducible rfl))
                        try simp only [Act.put, List.setIfInBounds_toArray, List.set_cons_zero, List.set_cons_succ, List.getElem_toArray, List.getElem_cons_zero, List.getElem_cons_succ]
                        refine wpAnyH_take (i := 5) (v := undef) rfl (by kernel_rfl) (by kernel_rfl) (by kernel_rfl) (fun _ _ _ h => h) (Or.inr ⟨by rfl, rfl⟩) (by assumption) ?_
                        try simp only [Act.put, List.setIfInBounds_toArray, List.set_cons_zero, List.set_cons_succ, List.getElem_toArray, List.getElem_cons_zero, List.getElem_cons_succ]
                        refine wpAnyH_take (i := 6) (v := undef) rfl (by kernel_rfl) (by kernel_rfl) (by kernel_rfl) (fun _ _ _ h => h) (Or.inr ⟨by rfl, rfl⟩) (by assumption) ?_
                        try simp only [Act.put, List.setIfInBounds_toArray, List.set_cons_zero, List.set_cons_succ, List.getElem_toArray, List.getElem_cons_zero, List.getElem_cons_succ]
                        refine wpAnyH_take (i := 7) (v := undef) rfl (by kernel_rfl) (by kernel_rfl) (by kernel_rfl) (fun _ _ _ h => h) (Or.inr ⟨by rfl, rfl⟩) (by assumption) ?_
                        try simp only [Act.put, List.setIfInBounds_toArray, List.set_cons_zero, List.set_cons_succ, List.getElem_toArray, List.getElem_cons_zero, List.getElem_cons_succ]
                        refine wpAnyH_take (i := 8) (v := undef) rfl (by kernel_rfl) (by kernel_rfl) (by kernel_rfl) (fun _ _ _ h => h) (Or.inr ⟨by rfl, rfl⟩) (by assumption) ?_
                        try simp only [Act.put, List.setIfInBounds_toArray, List.set_cons_zero, List.set_cons_succ, List.getElem_toArray, List.getElem_cons_zero, List.getElem_cons_succ]
                        refine wpAnyH_take (i := 9) (v := undef) rfl (by kernel_rfl) (by kernel_rfl) (by kernel_rfl) (fun _ _ _ h => h) (Or.inr ⟨by rfl, rfl⟩) (by assumption) ?_
                        try simp only [Act.put, List.setIfInBounds_toArray, List.set_cons_zero, List.set_cons_succ, List.getElem_toArray, List.getElem_cons_zero, List.getElem_cons_succ]
                        refine wpAnyH_take (i := 10) (v := undef) rfl (by kernel_rfl) (by kernel_rfl) (by kernel_rfl) (fun _ _ _ h => h) (Or.inr ⟨by rfl, rfl⟩) (by assumption) ?_
                        try simp only [Act.put, List.setIfInBounds_toArray, List.set_cons_zero, List.set_cons_succ, List.getElem_toArray, List.getElem_cons_zero, List.getElem_cons_succ]
                        refine wpAnyH_take (i := 11) (v := undef) rfl (by kernel_rfl) (by kernel_rfl) (by kernel_rfl) (fun _ _ _ h => h) (Or.inr ⟨by rfl, rfl⟩) (by assumption) ?_
                        try simp only [Act.put, List.setIfInBounds_toArray, List.set_cons_zero, List.set_cons_succ, List.getElem_toArray, List.getElem_cons_zero, List.getElem_cons_succ]
                        refine wpAnyH_take (i := 12) (v := undef) rfl (by kernel_rfl) (by kernel_rfl) (by kernel_rfl) (fun _ _ _ h => h) (Or.inr ⟨by rfl, rfl⟩) (by assumption) ?_
                        try simp only [Act.put, List.setIfInBounds_toArray, List.set_cons_zero, List.set_cons_succ, List.getElem_toArray, List.getElem_cons_zero, List.getElem_cons_succ]
                        refine wpAnyH_take (i := 13) (v := undef) rfl (by kernel_rfl) (by kernel_rfl) (by kernel_rfl) (fun _ _ _ h => h) (Or.inr ⟨by rfl, rfl⟩) (by assumption) ?_
                        try simp only [Act.put, List.setIfInBounds_toArray, List.set_cons_zero, List.set_cons_succ, List.getElem_toArray, List.getElem_cons_zero, List.getElem_cons_succ]
                        refine wpAnyH_take (i := 14) (v := undef) rfl (by kernel_rfl) (by kernel_rfl) (by kernel_rfl) (fun _ _ _ h => h) (Or.inr ⟨by rfl, rfl⟩) (by assumption) ?_
                        try simp only [Act.put, List.setIfInBounds_toArray, List.set_cons_zero, List.set_cons_succ, List.getElem_toArray, List.getElem_cons_zero, List.getElem_cons_succ]
                        refine wpAnyH_take (i := 15) (v := undef) rfl (by kernel_rfl) (by kernel_rfl) (by kernel_rfl) (fun _ _ _ h => h) (Or.inr ⟨by rfl, rfl⟩) (by assumption) ?_
                        try simp only [Act.put, List.setIfInBounds_toArray, List.set_cons_zero, List.set_cons_succ, List.getElem_toArray, List.getElem_cons_zero, List.getElem_cons_succ]
                        refine wpAnyH_take (i := 16) (v := ?_) rfl (by kernel_rfl) (by kernel_rfl) (by kernel_rfl) (fun _ _ _ h => h) (Or.inl ⟨by rfl, ?_⟩) (by assumption) ?_
                        rotate_left
                        · (intro w hSw; (try dsimp only at hSw); go_simp; try (with_reducible rfl))
                        try simp only [Act.put, List.setIfInBounds_toArray, List.set_cons_zero, List.set_cons_succ, List.getElem_toArray, List.getElem_cons_zero, List.getElem_cons_succ]
                        refine wpAnyH_done (by kernel_rfl) ?_ _
                        refine NoPanic.normal ?_
                        clear hHeld
                        go_wp2_with fail
                        go_roundw
                        case rel => exact ⟨s + 1, by omega, by go_num, HBX2⟩
                        case measure => simp [intOf]; omega
                      | false =>
                        rw [hK] at kT
                        have kT' : wr.drew.cell? ⟨T, s, none⟩ = some (.bool false) := kT
                        have kR' : wr.drew.heap[R]? = some (.cells (dCells F).toArray 5 (0, 0)) := (Chg.below HBX.out (fun _ => False)).box HRZ.out (fun e => e)
                        have hcR : ∀ X : World, X.heap[R]? = some (.cells (dCells F).toArray 5 (0, 0)) → (convert 22 9 (.slice (some ⟨R, 64 * s, none⟩) 64 (512 - 64 * s))).run Try.prog X = .ok (.string (bs sv)) X := fun X hX => conv_sec hX HF64.out (HFS.out s hs8 hK)
                        obtain ⟨q, hq⟩ : ∃ q, q = 64 * s := ⟨_, rfl⟩
                        have hq1 : q + 64 ≤ 512 := by omega
                        rw [← hq] at v1 v2 hcR
                        have e1 : (0 : Int) ≤ (q : Int) := by omega
                        have e2 : (q : Int) ≤ (q : Int) + 64 := by omega
                        have e3 : (q : Int) + 64 ≤ 512 := by omega
                        have e4 : ((q : Int) + 64).toNat - q = 64 := by omega
                        have e5 : (512 = q) = False := eq_false (by omega)
                        have hbd := bD HBX.out
                        clear hq kT
                        go_wp2_with fail
                        refine wp_region_noPanic ?_
                        refine wp_region_held_drew (S := fun X => (Below wz.heap.size wz X ∧ X.cell? ⟨T, s, none⟩ = some (.bool false)) ∧ X.heap[R]? = some (.cells (dCells F).toArray 5 (0, 0))) (by kernel_rfl) (⟨⟨hbd, kT'⟩, kR'⟩) (fun hHeld => ?_)
                        generalize wr.drew = x0 at *
                        refine wpAnyH_take (i := 0) (v := ?_) rfl (by kernel_rfl) (by kernel_rfl) (by kernel_rfl) (fun _ _ _ h => h) (Or.inl ⟨by rfl, ?_⟩) (by assumption) ?_
                        rotate_left
                        · (intro w hSw; (try dsimp only at hSw); go_simp; try (with_reducible rfl))
                        try simp only [Act.put, List.setIfInBounds_toArray, List.set_cons_zero, List.set_cons_succ, List.getElem_toArray, List.getElem_cons_zero]
                        refine wpAnyH_take (i := 1) (v := ?_) rfl (by kernel_rfl) (by kernel_rfl) (by kernel_rfl) (fun _ _ _ h => h) (Or.inl ⟨by rfl, ?_⟩) (by assumption) ?_
                        rotate_left
                        · (intro w hSw; (try dsimp only at hSw); go_simp; try (with_reducible rfl))
                        try simp only [Act.put, List.setIfInBounds_toArray, List.set_cons_zero, List.set_cons_succ, List.getElem_toArray, List.getElem_cons_zero, List.getElem_cons_succ]
                        refine wpAnyH_take (i := 2) (v := ?_) rfl (by kernel_rfl) (by kernel_rfl) (by kernel_rfl) (fun _ _ _ h => h) (Or.inl ⟨by rfl, ?_⟩) (by assumption) ?_
                        rotate_left
                        · (intro w hSw; (try dsimp only at hSw); go_simp; try (with_reducible rfl))
                        try simp only [Act.put, List.setIfInBounds_toArray, List.set_cons_zero, List.set_cons_succ, List.getElem_toArray, List.getElem_cons_zero, List.getElem_cons_succ]
                        refine wpAnyH_take (i := 3) (v := ?_) rfl (by kernel_rfl) (by kernel_rfl) (by kernel_rfl) (fun _ _ _ h => h) (Or.inl ⟨by rfl, ?_⟩) (by assumption) ?_
                        rotate_left
                        · (intro w hSw; (try dsimp only at hSw); go_simp; try (with_reducible rfl))
                        try simp only [Act.put, List.setIfInBounds_toArray, List.set_cons_zero, List.set_cons_succ, List.getElem_toArray, List.getElem_cons_zero, List.getElem_cons_succ]
                        refine wpAnyH_take (i := 4) (v := ?_) rfl (by kernel_rfl) (by kernel_rfl) (by kernel_rfl) (fun _ _ _ h => h) (Or.inl ⟨by rfl, ?_⟩) (by assumption) ?_
                        rotate_left
                        · (intro w hSw; (try dsimp only at hSw); go_simp; try (with_reducible rfl))
                        try simp only [Act.put, List.setIfInBounds_toArray, List.set_cons_zero, List.set_cons_succ, List.getElem_toArray, List.getElem_cons_zero, List.getElem_cons_succ]
                        refine wpAnyH_take (i := 5) (v := ?_) rfl (by kernel_rfl) (by kernel_rfl) (by kernel_rfl) (fun _ _ _ h => h) (Or.inl ⟨by rfl, ?_⟩) (by assumption) ?_
                        rotate_left
                        · (intro w hSw; (try dsimp only at hSw); go_simp; try (with_reducible rfl))
                        try simp only [Act.put, List.setIfInBounds_toArray, List.set_cons_zero, List.set_cons_succ, List.getElem_toArray, List.getElem_cons_zero, List.getElem_cons_succ]
                        refine wpAnyH_take (i := 6) (v := ?_) rfl (by kernel_rfl) (by kernel_rfl) (by kernel_rfl) (fun _ _ _ h => h) (Or.inl ⟨by rfl, ?_⟩) (by assumption) ?_
                        rotate_left
                        · (intro w hSw; (try dsimp only at hSw); go_simp; try (with_reducible rfl))
                        try simp only [Act.put, List.setIfInBounds_toArray, List.set_cons_zero, List.set_cons_succ, List.getElem_toArray, List.getElem_cons_zero, List.getElem_cons_succ]
                        refine wpAnyH_take (i := 7) (v := ?_) rfl (by kernel_rfl) (by kernel_rfl) (by kernel_rfl) (fun _ _ _ h => h) (Or.inl ⟨by rfl, ?_⟩) (by assumption) ?_
                        rotate_left
                        · (intro w hSw; (try dsimp only at hSw); go_simp; try (with_reducible rfl))
                        try simp only [Act.put, List.setIfInBounds_toArray, List.set_cons_zero, List.set_cons_succ, List.getElem_toArray, List.getElem_cons_zero, List.getElem_cons_succ]
                        refine wpAnyH_take (i := 8) (v := ?_) rfl (by kernel_rfl) (by kernel_rfl) (by kernel_rfl) (fun _ _ _ h => h) (Or.inl ⟨by rfl, ?_⟩) (by assumption) ?_
                        rotate_left
                        · (intro w hSw; (try dsimp only at hSw); go_simp; try (with_reducible rfl))
                        try simp only [Act.put, List.setIfInBounds_toArray, List.set_cons_zero, List.set_cons_succ, List.getElem_toArray, List.getElem_cons_zero, List.getElem_cons_succ]
                        refine wpAnyH_take (i := 9) (v := ?_) rfl (by kernel_rfl) (by kernel_rfl) (by kernel_rfl) (fun _ _ _ h => h) (Or.inl ⟨by rfl, ?_⟩) (by assumption) ?_
                        rotate_left
                        · (intro w hSw; (try dsimp only at hSw); go_simp; try (with_reducible rfl))
                        try simp only [Act.put, List.setIfInBounds_toArray, List.set_cons_zero, List.set_cons_succ, List.getElem_toArray, List.getElem_cons_zero, List.getElem_cons_succ]
                        refine wpAnyH_take (i := 10) (v := ?_) rfl (by kernel_rfl) (by kernel_rfl) (by kernel_rfl) (fun _ _ _ h => h) (Or.inl ⟨by rfl, ?_⟩) (by assumption) ?_
                        rotate_left
                        · (intro w hSw; (try dsimp only at hSw); go_simp; try (with_reducible rfl))
                        try simp only [Act.put, List.setIfInBounds_toArray, List.set_cons_zero, List.set_cons_succ, List.getElem_toArray, List.getElem_cons_zero, List.getElem_cons_succ]
                        refine wpAnyH_take (i := 11) (v := ?_) rfl (by kernel_rfl) (by kernel_rfl) (by kernel_rfl) (fun _ _ _ h => h) (Or.inl ⟨by rfl, ?_⟩) (by assumption) ?_
                        rotate_left
                        · (intro w hSw; (try dsimp only at hSw); go_simp; try (with_reducible rfl))
                        try simp only [Act.put, List.setIfInBounds_toArray, List.set_cons_zero, List.set_cons_succ, List.getElem_toArray, List.getElem_cons_zero, List.getElem_cons_succ]
                        refine wpAnyH_take (i := 12) (v := ?_) rfl (by kernel_rfl) (by kernel_rfl) (by kernel_rfl) (fun _ _ _ h => h) (Or.inl ⟨by rfl, ?_⟩) (by assumption) ?_
                        rotate_left
                        · (intro w hSw; (try dsimp only at hSw); have hcvw := hcR _ hSw.2; go_simp; try (with_reducible rfl))
                        try simp only [Act.put, List.setIfInBounds_toArray, List.set_cons_zero, List.set_cons_succ, List.getElem_toArray, List.getElem_cons_zero, List.getElem_cons_succ]
                        refine wpAnyH_ready (rs := [13]) (by kernel_rfl) (by simp) ?_
                        refine AllReadyH.cons rfl (fun K hK => ?_) AllReadyH.nil
                        go_simp
                        go_at_call 8
                        refine (hf7 x0).mono ?_
                        rintro e7 x1 ⟨rfl, hr7, hb7⟩
                        refine hK.out _ _ ⟨⟨hHeld.1.1.trans (hb7.mono hHeld.1.1.size), cell_below hb7 hHeld.1.2⟩, (Chg.below hb7 (fun _ => False)).box hHeld.2 (fun e => e)⟩ (fun hHeld2 => ?_)
                        clear hK K hHeld
                        refine wpAnyH_strong (S' := fun X => ((Below wz.heap.size wz X ∧ X.cell? ⟨T, s, none⟩ = some (.bool false)) ∧ X.heap[R]? = some (.cells (dCells F).toArray 5 (0, 0))) ∧ X.heap[x0.heap.size]? = some (.cells (bCells sv).toArray 5 (0, 0))) (fun X hX => hX.1) _ _ _ _ ?_
                        have hHeld := And.intro hHeld2 hr7
                        clear hHeld2
                        try simp only [Act.put, List.setIfInBounds_toArray, List.set_cons_zero, List.set_cons_succ, List.getElem_toArray, List.getElem_cons_zero, List.getElem_cons_succ]
                        refine wpAnyH_take (i := 14) (v := ?_) rfl (by kernel_rfl) (by kernel_rfl) (by kernel_rfl) (fun _ _ _ h => h) (Or.inl ⟨by rfl, ?_⟩) (by assumption) ?_
                        rotate_left
                        · (intro w hSw; (try dsimp only at hSw); have hcvw := hc7 _ _ hSw.2; go_simp; try (with_reducible rfl))
                        try simp only [Act.put, List.setIfInBounds_toArray, List.set_cons_zero, List.set_cons_succ, List.getElem_toArray, List.getElem_cons_zero, List.getElem_cons_succ]
                        refine wpAnyH_take (i := 15) (v := ?_) rfl (by kernel_rfl) (by kernel_rfl) (by kernel_rfl) (fun _ _ _ h => h) (Or.inl ⟨by rfl, ?_⟩) (by assumption) ?_
                        rotate_left
                        · (intro w hSw; (try dsimp only at hSw); go_simp; try (with_reducible rfl))
                        try simp only [Act.put, List.setIfInBounds_toArray, List.set_cons_zero, List.set_cons_succ, List.getElem_toArray, List.getElem_cons_zero, List.getElem_cons_succ]
                        refine wpAnyH_take (i := 16) (v := ?_) rfl (by kernel_rfl) (by kernel_rfl) (by kernel_rfl) (fun _ _ _ h => h) (Or.inl ⟨by rfl, ?_⟩) (by assumption) ?_
                        rotate_left
                        · (intro w hSw; (try dsimp only at hSw); go_simp; try (with_reducible rfl))
                        try simp only [Act.put, List.setIfInBounds_toArray, List.set_cons_zero, List.set_cons_succ, List.getElem_toArray, List.getElem_cons_zero, List.getElem_cons_succ]
                        refine wpAnyH_done (by kernel_rfl) ?_ _
                        refine NoPanic.normal ?_
                        have HBY := Lib.hid hHeld.1.1.1
                        clear hHeld
                        go_wp2_with fail
                        go_roundw
                        case rel => exact ⟨s + 1, by omega, by go_num, HBY⟩
                        case measure => simp [intOf]; omega
                    · have q4 : decide ((s : Int) < 8) = false := decide_eq_false (by omega)
                      have q4' : decide (s < 8) = false := decide_eq_false hs8
                      have hDE := HDZ.out.on HBX.out
                      have hTE := (Chg.below HBX.out (fun _ => False)).box HTZ.out (fun e => e)
                      have hBE := bT HBZ.out HBX.out
                      have HDE := Lib.hid hDE
                      have HTE := Lib.hid hTE
                      have HBE := Lib.hid hBE
                      clear hDE hTE hBE
                      go_wp2_with fail
                      go_roundw
                      case rel => exact ⟨j + 1, vQ, wsQ, SQ, by omega, by go_num, HDE, hSQ8, hwQ, HSQ, HTE, HBE⟩
                      case measure => simp [intOf]; omega
                · have q3 : decide ((60 : Int) < (m : Int)) = true := decide_eq_true (by omega)
                  have q3' : decide (60 < m) = true := decide_eq_true (by omega)
                  go_wp2_with fail
                  go_ret
                  exact ⟨rfl, HBR.out⟩
              · have q2 : decide ((j : Int) < (N : Int)) = false := decide_eq_false (by omega)
                have q2' : decide (j < N) = false := decide_eq_false hjl
                obtain ⟨w5, hw5⟩ : ∃ w5, wr = w5 := ⟨_, rfl⟩
                obtain ⟨SQ, hSQ⟩ : ∃ SQ, S = SQ := ⟨_, rfl⟩
                obtain ⟨vQ, hvQ⟩ : ∃ vQ, v = vQ := ⟨_, rfl⟩
                obtain ⟨wsQ, hwsQ⟩ : ∃ wsQ, ws = wsQ := ⟨_, rfl⟩
                subst hw5 hSQ hvQ hwsQ
                have HDQ := HDR
                have HBQ := HBR
                have HTQ := HT
                have HSQ := HS
                have hSQ8 := hS8
                have hwQ := hwl
                clear HDR HT HBR HS hwl hS8
                go_wp2_with fail
                have hrd := read_any (g + 1) g S v ws (by omega) (by omega) wr HDQ.out
                rw [hSQ8] at hrd
                refine hrd.mono ?_
                clear hrd
                rintro e wz ⟨R, rfl, hR, hRl, hbz⟩
                have HBZ := Lib.hid (bT HBQ.out hbz)
                have HDZ := Lib.hid (HDQ.out.on hbz)
                have HTZ := Lib.hid ((Chg.below hbz (fun _ => False)).box HTQ.out (fun e => e))
                have HRZ := Lib.hid hR
                clear hR hbz
                have hFS : ∀ s, s < 8 → K s = false → (doneS S ws)[s]? = some sv := fun s hs hk => (done_other (HSQ.out s hs hk).2).trans (HSQ.out s hs hk).1
                have hF64 : ∀ x ∈ doneS S ws, x.length = 64 := doneS_64 HDQ.out.s64 (fun x hx => (HDQ.out.a64 x hx).2)
                generalize doneS S ws = F at *
                clear HDQ HBQ HTQ
                have hf7 : ∀ W : World, Calls Try.prog 8 #[.int .u8 7, .int .i64 1, .int .i64 0] W fun e w' => e = .returned (.slice (some ⟨W.heap.size, 0, none⟩) 64 64) ∧ w'.heap[W.heap.size]? = some (.cells (bCells sv).toArray 5 (0, 0)) ∧ Below W.heap.size W w' := fun W => by
                  rw [hsv]
                  exact filled_any 7 1 0 64 (by decide) (by decide) (by decide) rfl W
                have hc7 : ∀ b (X : World), X.heap[b]? = some (.cells (bCells sv).toArray 5 (0, 0)) → (convert 22 9 (.slice (some ⟨b, 0, none⟩) 64 64)).run Try.prog X = .ok (.string (bs sv)) X := fun b X hX => by
                  have := conv_row hX
                  rwa [show sv.length = 64 by rw [hsv]; simp] at this
                have HFS := Lib.hid hFS
                have HF64 := Lib.hid hF64
                clear hFS hF64
                go_wp2_with fail
                go_loopw [13] (fun s13 wx => ∃ s : Nat, s ≤ 8 ∧ s13 = .int .i64 s ∧ Hid (Below wz.heap.size wz wx)) (fun s13 _ => 8 - (intOf s13).toNat)
                case atStart => exact ⟨0, by decide, rfl, Lib.hid (Below.refl _ _)⟩
                case round =>
                  obtain ⟨s, hs, rfl, HBX⟩ := hrel
                  by_cases hs8 : s < 8
                  · have q4 : decide ((s : Int) < 8) = true := decide_eq_true (by omega)
                    have q4' : decide (s < 8) = true := decide_eq_true hs8
                    have v1 : IntKind.i64.wrap (64 * (s : Int)) = ((64 * s : Nat) : Int) := by rw [IntKind.wrap_i64]; omega
                    have v2 : IntKind.i64.wrap (((64 * s : Nat) : Int) + 64) = ((64 * s : Nat) : Int) + 64 := by rw [IntKind.wrap_i64]; omega
                    have v3 : IntKind.i64.wrap ((s : Int) + 1) = (s : Int) + 1 := by rw [IntKind.wrap_i64]; omega
                    have b1 : (0 : Int) ≤ (s : Int) := by omega
                    have b2 : (s : Int) < 8 := by omega
                    have kT : wr.cell? ⟨T, s, none⟩ = some (.bool (K s)) := by rw [cell_in ((Chg.below HBX.out (fun _ => False)).box HTZ.out (fun e => e)), List.getElem?_toArray]; exact kCells_at K 8 s hs8
                    cases hK : K s with
                    | true =>
                      rw [hK] at kT
                      have kT' : wr.drew.cell? ⟨T, s, none⟩ = some (.bool true) := kT
                      have HBX2 := Lib.hid (bD HBX.out)
                      go_wp2_with fail
                      refine wp_region_noPanic ?_
                      refine wp_region_held_drew (S := fun X => Below wz.heap.size wz X ∧ X.cell? ⟨T, s, none⟩ = some (.bool true)) (by kernel_rfl) (⟨HBX2.out, kT'⟩) (fun hHeld => ?_)
                      refine wpAnyH_take (i := 0) (v := ?_) rfl (by kernel_rfl) (by kernel_rfl) (by kernel_rfl) (fun _ _ _ h => h) (Or.inl ⟨by rfl, ?_⟩) (by assumption) ?_
                      rotate_left
                      · (intro w hSw; (try dsimp only at hSw); go_simp; try (with_reducible rfl))
                      try simp only [Act.put, List.setIfInBounds_toArray, List.set_cons_zero, List.set_cons_succ, List.getElem_toArray, List.getElem_cons_zero]
                      refine wpAnyH_take (i := 1) (v := ?_) rfl (by kernel_rfl) (by kernel_rfl) (by kernel_rfl) (fun _ _ _ h => h) (Or.inl ⟨by rfl, ?_⟩) (by assumption) ?_
                      rotate_left
                      · (intro w hSw; (try dsimp only at hSw); go_simp; try (with_reducible rfl))
                      try simp only [Act.put, List.setIfInBounds_toArray, List.set_cons_zero, List.set_cons_succ, List.getElem_toArray, List.getElem_cons_zero, List.getElem_cons_succ]
                      refine wpAnyH_take (i := 2) (v := ?_) rfl (by kernel_rfl) (by kernel_rfl) (by kernel_rfl) (fun _ _ _ h => h) (Or.inl ⟨by rfl, ?_⟩) (by assumption) ?_
                      rotate_left
                      · (intro w hSw; (try dsimp only at hSw); go_simp; try (with_reducible rfl))
                      try simp only [Act.put, List.setIfInBounds_toArray, List.set_cons_zero, List.set_cons_succ, List.getElem_toArray, List.getElem_cons_zero, List.getElem_cons_succ]
                      refine wpAnyH_take (i := 3) (v := ?_) rfl (by kernel_rfl) (by kernel_rfl) (by kernel_rfl) (fun _ _ _ h => h) (Or.inl ⟨by rfl, ?_⟩) (by assumption) ?_
                      rotate_left
                      · (intro w hSw; (try dsimp only at hSw); go_simp; try (with_reducible rfl))
                      try simp only [Act.put, List.setIfInBounds_toArray, List.set_cons_zero, List.set_cons_succ, List.getElem_toArray, List.getElem_cons_zero, List.getElem_cons_succ]
                      refine wpAnyH_take (i := 4) (v := ?_) rfl (by kernel_rfl) (by kernel_rfl) (by kernel_rfl) (fun _ _ _ h => h) (Or.inl ⟨by rfl, ?_⟩) (by assumption) ?_
                      rotate_left
                      · (intro w hSw; (try dsimp only at hSw); go_simp; try (with_reducible rfl))
                      try simp only [Act.put, List.setIfInBounds_toArray, List.set_cons_zero, List.set_cons_succ, List.getElem_toArray, List.getElem_cons_zero, List.getElem_cons_succ]
                      refine wpAnyH_take (i := 5) (v := undef) rfl (by kernel_rfl) (by kernel_rfl) (by kernel_rfl) (fun _ _ _ h => h) (Or.inr ⟨by rfl, rfl⟩) (by assumption) ?_
                      try simp only [Act.put, List.setIfInBounds_toArray, List.set_cons_zero, List.set_cons_succ, List.getElem_toArray, List.getElem_cons_zero, List.getElem_cons_succ]
                      refine wpAnyH_take (i := 6) (v := undef) rfl (by kernel_rfl) (by kernel_rfl) (by kernel_rfl) (fun _ _ _ h => h) (Or.inr ⟨by rfl, rfl⟩) (by assumption) ?_
                      try simp only [Act.put, List.setIfInBounds_toArray, List.set_cons_zero, List.set_cons_succ, List.getElem_toArray, List.getElem_cons_zero, List.getElem_cons_succ]
                      refine wpAnyH_take (i := 7) (v := undef) rfl (by kernel_rfl) (by kernel_rfl) (by kernel_rfl) (fun _ _ _ h => h) (Or.inr ⟨by rfl, rfl⟩) (by assumption) ?_
                      try simp only [Act.put, List.setIfInBounds_toArray, List.set_cons_zero, List.set_cons_succ, List.getElem_toArray, List.getElem_cons_zero, List.getElem_cons_succ]
                      refine wpAnyH_take (i := 8) (v := undef) rfl (by kernel_rfl) (by kernel_rfl) (by kernel_rfl) (fun _ _ _ h => h) (Or.inr ⟨by rfl, rfl⟩) (by assumption) ?_
                      try simp only [Act.put, List.setIfInBounds_toArray, List.set_cons_zero, List.set_cons_succ, List.getElem_toArray, List.getElem_cons_zero, List.getElem_cons_succ]
                      refine wpAnyH_take (i := 9) (v := undef) rfl (by kernel_rfl) (by kernel_rfl) (by kernel_rfl) (fun _ _ _ h => h) (Or.inr ⟨by rfl, rfl⟩) (by assumption) ?_
                      try simp only [Act.put, List.setIfInBounds_toArray, List.set_cons_zero, List.set_cons_succ, List.getElem_toArray, List.getElem_cons_zero, List.getElem_cons_succ]
                      refine wpAnyH_take (i := 10) (v := undef) rfl (by kernel_rfl) (by kernel_rfl) (by kernel_rfl) (fun _ _ _ h => h) (Or.inr ⟨by rfl, rfl⟩) (by assumption) ?_
                      try simp only [Act.put, List.setIfInBounds_toArray, List.set_cons_zero, List.set_cons_succ, List.getElem_toArray, List.getElem_cons_zero, List.getElem_cons_succ]
                      refine wpAnyH_take (i := 11) (v := undef) rfl (by kernel_rfl) (by kernel_rfl) (by kernel_rfl) (fun _ _ _ h => h) (Or.inr ⟨by rfl, rfl⟩) (by assumption) ?_
                      try simp only [Act.put, List.setIfInBounds_toArray, List.set_cons_zero, List.set_cons_succ, List.getElem_toArray, List.getElem_cons_zero, List.getElem_cons_succ]
                      refine wpAnyH_take (i := 12) (v := undef) rfl (by kernel_rfl) (by kernel_rfl) (by kernel_rfl) (fun _ _ _ h => h) (Or.inr ⟨by rfl, rfl⟩) (by assumption) ?_
                      try simp only [Act.put, List.setIfInBounds_toArray, List.set_cons_zero, List.set_cons_succ, List.getElem_toArray, List.getElem_cons_zero, List.getElem_cons_succ]
                      refine wpAnyH_take (i := 13) (v := undef) rfl (by kernel_rfl) (by kernel_rfl) (by kernel_rfl) (fun _ _ _ h => h) (Or.inr ⟨by rfl, rfl⟩) (by assumption) ?_
                      try simp only [Act.put, List.setIfInBounds_toArray, List.set_cons_zero, List.set_cons_succ, List.getElem_toArray, List.getElem_cons_zero, List.getElem_cons_succ]
                      refine wpAnyH_take (i := 14) (v := undef) rfl (by kernel_rfl) (by kernel_rfl) (by kernel_rfl) (fun _ _ _ h => h) (Or.inr ⟨by rfl, rfl⟩) (by assumption) ?_
                      try simp only [Act.put, List.setIfInBounds_toArray, List.set_cons_zero, List.set_cons_succ, List.getElem_toArray, List.getElem_cons_zero, List.getElem_cons_succ]
                      refine wpAnyH_take (i := 15) (v := undef) rfl (by kernel_rfl) (by kernel_rfl) (by kernel_rfl) (fun _ _ _ h => h) (Or.inr ⟨by rfl, rfl⟩) (by assumption) ?_
                      try simp only [Act.put, List.setIfInBounds_toArray, List.set_cons_zero, List.set_cons_succ, List.getElem_toArray, List.getElem_cons_zero, List.getElem_cons_succ]
                      refine wpAnyH_take (i := 16) (v := ?_) rfl (by kernel_rfl) (by kernel_rfl) (by kernel_rfl) (fun _ _ _ h => h) (Or.inl ⟨by rfl, ?_⟩) (by assumption) ?_
                      rotate_left
                      · (intro w hSw; (try dsimp only at hSw); go_simp; try (with_reducible rfl))
                      try simp only [Act.put, List.setIfInBounds_toArray, List.set_cons_zero, List.set_cons_succ, List.getElem_toArray, List.getElem_cons_zero, List.getElem_cons_succ]
                      refine wpAnyH_done (by kernel_rfl) ?_ _
                      refine NoPanic.normal ?_
                      clear hHeld
                      go_wp2_with fail
                      go_roundw
                      case rel => exact ⟨s + 1, by omega, by go_num, HBX2⟩
                      case measure => simp [intOf]; omega
                    | false =>
                      rw [hK] at kT
                      have kT' : wr.drew.cell? ⟨T, s, none⟩ = some (.bool false) := kT
                      have kR' : wr.drew.heap[R]? = some (.cells (dCells F).toArray 5 (0, 0)) := (Chg.below HBX.out (fun _ => False)).box HRZ.out (fun e => e)
                      have hcR : ∀ X : World, X.heap[R]? = some (.cells (dCells F).toArray 5 (0, 0)) → (convert 22 9 (.slice (some ⟨R, 64 * s, none⟩) 64 (512 - 64 * s))).run Try.prog X = .ok (.string (bs sv)) X := fun X hX => conv_sec hX HF64.out (HFS.out s hs8 hK)
                      obtain ⟨q, hq⟩ : ∃ q, q = 64 * s := ⟨_, rfl⟩
                      have hq1 : q + 64 ≤ 512 := by omega
                      rw [← hq] at v1 v2 hcR
                      have e1 : (0 : Int) ≤ (q : Int) := by omega
                      have e2 : (q : Int) ≤ (q : Int) + 64 := by omega
                      have e3 : (q : Int) + 64 ≤ 512 := by omega
                      have e4 : ((q : Int) + 64).toNat - q = 64 := by omega
                      have e5 : (512 = q) = False := eq_false (by omega)
                      have hbd := bD HBX.out
                      clear hq kT
                      go_wp2_with fail
                      refine wp_region_noPanic ?_
                      refine wp_region_held_drew (S := fun X => (Below wz.heap.size wz X ∧ X.cell? ⟨T, s, none⟩ = some (.bool false)) ∧ X.heap[R]? = some (.cells (dCells F).toArray 5 (0, 0))) (by kernel_rfl) (⟨⟨hbd, kT'⟩, kR'⟩) (fun hHeld => ?_)
                      generalize wr.drew = x0 at *
                      refine wpAnyH_take (i := 0) (v := ?_) rfl (by kernel_rfl) (by kernel_rfl) (by kernel_rfl) (fun _ _ _ h => h) (Or.inl ⟨by rfl, ?_⟩) (by assumption) ?_
                      rotate_left
                      · (intro w hSw; (try dsimp only at hSw); go_simp; try (with_reducible rfl))
                      try simp only [Act.put, List.setIfInBounds_toArray, List.set_cons_zero, List.set_cons_succ, List.getElem_toArray, List.getElem_cons_zero]
                      refine wpAnyH_take (i := 1) (v := ?_) rfl (by kernel_rfl) (by kernel_rfl) (by kernel_rfl) (fun _ _ _ h => h) (Or.inl ⟨by rfl, ?_⟩) (by assumption) ?_
                      rotate_left
                      · (intro w hSw; (try dsimp only at hSw); go_simp; try (with_reducible rfl))
                      try simp only [Act.put, List.setIfInBounds_toArray, List.set_cons_zero, List.set_cons_succ, List.getElem_toArray, List.getElem_cons_zero, List.getElem_cons_succ]
                      refine wpAnyH_take (i := 2) (v := ?_) rfl (by kernel_rfl) (by kernel_rfl) (by kernel_rfl) (fun _ _ _ h => h) (Or.inl ⟨by rfl, ?_⟩) (by assumption) ?_
                      rotate_left
                      · (intro w hSw; (try dsimp only at hSw); go_simp; try (with_reducible rfl))
                      try simp only [Act.put, List.setIfInBounds_toArray, List.set_cons_zero, List.set_cons_succ, List.getElem_toArray, List.getElem_cons_zero, List.getElem_cons_succ]
                      refine wpAnyH_take (i := 3) (v := ?_) rfl (by kernel_rfl) (by kernel_rfl) (by kernel_rfl) (fun _ _ _ h => h) (Or.inl ⟨by rfl, ?_⟩) (by assumption) ?_
                      rotate_left
                      · (intro w hSw; (try dsimp only at hSw); go_simp; try (with_reducible rfl))
                      try simp only [Act.put, List.setIfInBounds_toArray, List.set_cons_zero, List.set_cons_succ, List.getElem_toArray, List.getElem_cons_zero, List.getElem_cons_succ]
                      refine wpAnyH_take (i := 4) (v := ?_) rfl (by kernel_rfl) (by kernel_rfl) (by kernel_rfl) (fun _ _ _ h => h) (Or.inl ⟨by rfl, ?_⟩) (by assumption) ?_
                      rotate_left
                      · (intro w hSw; (try dsimp only at hSw); go_simp; try (with_reducible rfl))
                      try simp only [Act.put, List.setIfInBounds_toArray, List.set_cons_zero, List.set_cons_succ, List.getElem_toArray, List.getElem_cons_zero, List.getElem_cons_succ]
                      refine wpAnyH_take (i := 5) (v := ?_) rfl (by kernel_rfl) (by kernel_rfl) (by kernel_rfl) (fun _ _ _ h => h) (Or.inl ⟨by rfl, ?_⟩) (by assumption) ?_
                      rotate_left
                      · (intro w hSw; (try dsimp only at hSw); go_simp; try (with_reducible rfl))
                      try simp only [Act.put, List.setIfInBounds_toArray, List.set_cons_zero, List.set_cons_succ, List.getElem_toArray, List.getElem_cons_zero, List.getElem_cons_succ]
                      refine wpAnyH_take (i := 6) (v := ?_) rfl (by kernel_rfl) (by kernel_rfl) (by kernel_rfl) (fun _ _ _ h => h) (Or.inl ⟨by rfl, ?_⟩) (by assumption) ?_
                      rotate_left
                      · (intro w hSw; (try dsimp only at hSw); go_simp; try (with_reducible rfl))
                      try simp only [Act.put, List.setIfInBounds_toArray, List.set_cons_zero, List.set_cons_succ, List.getElem_toArray, List.getElem_cons_zero, List.getElem_cons_succ]
                      refine wpAnyH_take (i := 7) (v := ?_) rfl (by kernel_rfl) (by kernel_rfl) (by kernel_rfl) (fun _ _ _ h => h) (Or.inl ⟨by rfl, ?_⟩) (by assumption) ?_
                      rotate_left
                      · (intro w hSw; (try dsimp only at hSw); go_simp; try (with_reducible rfl))
                      try simp only [Act.put, List.setIfInBounds_toArray, List.set_cons_zero, List.set_cons_succ, List.getElem_toArray, List.getElem_cons_zero, List.getElem_cons_succ]
                      refine wpAnyH_take (i := 8) (v := ?_) rfl (by kernel_rfl) (by kernel_rfl) (by kernel_rfl) (fun _ _ _ h => h) (Or.inl ⟨by rfl, ?_⟩) (by assumption) ?_
                      rotate_left
                      · (intro w hSw; (try dsimp only at hSw); go_simp; try (with_reducible rfl))
                      try simp only [Act.put, List.setIfInBounds_toArray, List.set_cons_zero, List.set_cons_succ, List.getElem_toArray, List.getElem_cons_zero, List.getElem_cons_succ]
                      refine wpAnyH_take (i := 9) (v := ?_) rfl (by kernel_rfl) (by kernel_rfl) (by kernel_rfl) (fun _ _ _ h => h) (Or.inl ⟨by rfl, ?_⟩) (by assumption) ?_
                      rotate_left
                      · (intro w hSw; (try dsimp only at hSw); go_simp; try (with_reducible rfl))
                      try simp only [Act.put, List.setIfInBounds_toArray, List.set_cons_zero, List.set_cons_succ, List.getElem_toArray, List.getElem_cons_zero, List.getElem_cons_succ]
                      refine wpAnyH_take (i := 10) (v := ?_) rfl (by kernel_rfl) (by kernel_rfl) (by kernel_rfl) (fun _ _ _ h => h) (Or.inl ⟨by rfl, ?_⟩) (by assumption) ?_
                      rotate_left
                      · (intro w hSw; (try dsimp only at hSw); go_simp; try (with_reducible rfl))
                      try simp only [Act.put, List.setIfInBounds_toArray, List.set_cons_zero, List.set_cons_succ, List.getElem_toArray, List.getElem_cons_zero, List.getElem_cons_succ]
                      refine wpAnyH_take (i := 11) (v := ?_) rfl (by kernel_rfl) (by kernel_rfl) (by kernel_rfl) (fun _ _ _ h => h) (Or.inl ⟨by rfl, ?_⟩) (by assumption) ?_
                      rotate_left
                      · (intro w hSw; (try dsimp only at hSw); go_simp; try (with_reducible rfl))
                      try simp only [Act.put, List.setIfInBounds_toArray, List.set_cons_zero, List.set_cons_succ, List.getElem_toArray, List.getElem_cons_zero, List.getElem_cons_succ]
                      refine wpAnyH_take (i := 12) (v := ?_) rfl (by kernel_rfl) (by kernel_rfl) (by kernel_rfl) (fun _ _ _ h => h) (Or.inl ⟨by rfl, ?_⟩) (by assumption) ?_
                      rotate_left
                      · (intro w hSw; (try dsimp only at hSw); have hcvw := hcR _ hSw.2; go_simp; try (with_reducible rfl))
                      try simp only [Act.put, List.setIfInBounds_toArray, List.set_cons_zero, List.set_cons_succ, List.getElem_toArray, List.getElem_cons_zero, List.getElem_cons_succ]
                      refine wpAnyH_ready (rs := [13]) (by kernel_rfl) (by simp) ?_
                      refine AllReadyH.cons rfl (fun K hK => ?_) AllReadyH.nil
                      go_simp
                      go_at_call 8
                      refine (hf7 x0).mono ?_
                      rintro e7 x1 ⟨rfl, hr7, hb7⟩
                      refine hK.out _ _ ⟨⟨hHeld.1.1.trans (hb7.mono hHeld.1.1.size), cell_below hb7 hHeld.1.2⟩, (Chg.below hb7 (fun _ => False)).box hHeld.2 (fun e => e)⟩ (fun hHeld2 => ?_)
                      clear hK K hHeld
                      refine wpAnyH_strong (S' := fun X => ((Below wz.heap.size wz X ∧ X.cell? ⟨T, s, none⟩ = some (.bool false)) ∧ X.heap[R]? = some (.cells (dCells F).toArray 5 (0, 0))) ∧ X.heap[x0.heap.size]? = some (.cells (bCells sv).toArray 5 (0, 0))) (fun X hX => hX.1) _ _ _ _ ?_
                      have hHeld := And.intro hHeld2 hr7
                      clear hHeld2
                      try simp only [Act.put, List.setIfInBounds_toArray, List.set_cons_zero, List.set_cons_succ, List.getElem_toArray, List.getElem_cons_zero, List.getElem_cons_succ]
                      refine wpAnyH_take (i := 14) (v := ?_) rfl (by kernel_rfl) (by kernel_rfl) (by kernel_rfl) (fun _ _ _ h => h) (Or.inl ⟨by rfl, ?_⟩) (by assumption) ?_
                      rotate_left
                      · (intro w hSw; (try dsimp only at hSw); have hcvw := hc7 _ _ hSw.2; go_simp; try (with_reducible rfl))
                      try simp only [Act.put, List.setIfInBounds_toArray, List.set_cons_zero, List.set_cons_succ, List.getElem_toArray, List.getElem_cons_zero, List.getElem_cons_succ]
                      refine wpAnyH_take (i := 15) (v := ?_) rfl (by kernel_rfl) (by kernel_rfl) (by kernel_rfl) (fun _ _ _ h => h) (Or.inl ⟨by rfl, ?_⟩) (by assumption) ?_
                      rotate_left
                      · (intro w hSw; (try dsimp only at hSw); go_simp; try (with_reducible rfl))
                      try simp only [Act.put, List.setIfInBounds_toArray, List.set_cons_zero, List.set_cons_succ, List.getElem_toArray, List.getElem_cons_zero, List.getElem_cons_succ]
                      refine wpAnyH_take (i := 16) (v := ?_) rfl (by kernel_rfl) (by kernel_rfl) (by kernel_rfl) (fun _ _ _ h => h) (Or.inl ⟨by rfl, ?_⟩) (by assumption) ?_
                      rotate_left
                      · (intro w hSw; (try dsimp only at hSw); go_simp; try (with_reducible rfl))
                      try simp only [Act.put, List.setIfInBounds_toArray, List.set_cons_zero, List.set_cons_succ, List.getElem_toArray, List.getElem_cons_zero, List.getElem_cons_succ]
                      refine wpAnyH_done (by kernel_rfl) ?_ _
                      refine NoPanic.normal ?_
                      have HBY := Lib.hid hHeld.1.1.1
                      clear hHeld
                      go_wp2_with fail
                      go_roundw
                      case rel => exact ⟨s + 1, by omega, by go_num, HBY⟩
                      case measure => simp [intOf]; omega
                  · have q4 : decide ((s : Int) < 8) = false := decide_eq_false (by omega)
                    have q4' : decide (s < 8) = false := decide_eq_false hs8
                    have hDE := HDZ.out.on HBX.out
                    have hTE := (Chg.below HBX.out (fun _ => False)).box HTZ.out (fun e => e)
                    have hBE := bT HBZ.out HBX.out
                    have HDE := Lib.hid hDE
                    have HTE := Lib.hid hTE
                    have HBE := Lib.hid hBE
                    clear hDE hTE hBE
                    go_wp2_with fail
                    go_roundw
                    case rel => exact ⟨j + 1, v, ws, S, by omega, by go_num, HDE, hSQ8, hwQ, HSQ, HTE, HBE⟩
                    case measure => simp [intOf]; omega
            · have q1 : decide ((j : Int) ≤ (N : Int)) = false := decide_eq_false (by omega)
              have q1' : decide (j ≤ N) = false := decide_eq_false hjN
              go_wp2_with fail
              go_ret
              exact ⟨rfl, HBR.out⟩
    · have d2 : decide ((5 : Int) < (N : Int)) = true := decide_eq_true (by omega)
      have d2' : decide (5 < N) = true := decide_eq_true (by omega)
      go_wp2_with fail
      refine (awake_any w1).mono ?_
      rintro e w2 ⟨rfl, hb2⟩
      go_wp2_with fail
      go_ret
      exact ⟨rfl, bT hb1 hb2⟩
  · have d1 : decide ((20 : Int) < (n : Int)) = true := decide_eq_true (by omega)
    have d1' : decide (20 < n) = true := decide_eq_true (by omega)
    go_wp2_with fail
    refine (awake_any w1).mono ?_
    rintro e w2 ⟨rfl, hb2⟩
    go_wp2_with fail
    go_ret
    exact ⟨rfl, bT hb1 hb2⟩
end Go.Proofs.Ytaogfokdllmfeaa
