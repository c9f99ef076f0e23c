/-
  Two disks with the same writes: the code's and the reference's.
-/
import Derived.Test.YtgcifhhbhoafcaaRefOpenS
import Derived.Test.YtgcifhhbhoafcaaSlotOpen
import Derived.Test.YtgcifhhbhoafcaaSlotFlush
import Derived.Test.YtgcifhhbhoafcaaRefWrite
namespace Go.Proofs.Ytgcifhhbhoafcaa
open Go.RowKit Go.Shelf
attribute [local go_sem] Oper.semAt_some

theorem own_type {w : World} {lo : Nat} {e : TypeId} {sz : Nat} {v : Value} {n : Nat} {xs : List Value} (h : w.ownsRow lo e sz v n xs) {k : Nat} (hk : v.ownBlock = some k) : lo ≤ k ∧ ∃ cs, w.heap[k]? = some (.cells cs e (0, 0)) := by
  rcases h.2 with ⟨rfl, _⟩ | ⟨g, c, u, rfl, hb, hg, _⟩
  · cases hk
  · cases hk
    exact ⟨hb, u, hg⟩
theorem type_ne {w : World} {k : Nat} {cs cs' : Array Value} {T T' : TypeId} {fr fr' : Nat × Nat} (h : w.heap[k]? = some (.cells cs T fr)) (h' : w.heap[k]? = some (.cells cs' T' fr')) : T = T' := by
  rw [h] at h'
  simp only [Option.some.injEq, Obj.cells.injEq] at h'
  exact h'.2.1
theorem RA.apart {w w' : World} {D lo : Nat} {S : List Sec} {va vw : Value} {pos : List Nat} {B : List Sec} (H : RA w D lo S va vw pos B) (hS : 1 ≤ S.length) {ex : Nat → Prop} (hc : Chg ex w w') (hex : ∀ k, ex k → (∃ cs T fr, w.heap[k]? = some (.cells cs T fr) ∧ T ≠ 76 ∧ T ≠ 3 ∧ T ≠ 9) ∧ (lo ≤ k ∨ ∃ v, w.cell? ⟨k, 0, none⟩ = some v ∧ ∀ x, v ≠ .string x)) : RA w' D lo S va vw pos B := by
  obtain ⟨gs, cs, h1, h2, h3, h4, h5⟩ := H.box
  have hd := H.dlo
  refine ⟨⟨gs, cs, hc.box h1 (fun e => ?_), hc.range h2 (fun e => ?_), h3, h4, Nat.lt_of_lt_of_le h5 hc.size⟩, hd, Nat.le_trans H.lolow hc.size, hc.own H.at_ (fun k hk e => ?_), hc.own H.what (fun k hk e => ?_)⟩
  · obtain ⟨⟨cs', T, fr, hh, ht, _⟩, _⟩ := hex _ e
    exact ht (type_ne hh h1)
  · rcases (hex _ e).2 with hl | ⟨v, hv, hn⟩
    · omega
    · have h0 : (sCells S)[0]? = some (.string (bs (S[0]'(by omega)))) := by
        unfold sCells
        rw [List.getElem?_map, List.getElem?_eq_getElem (by omega)]
        rfl
      have := h2 0 _ h0
      rw [Nat.zero_add] at this
      rw [hv] at this
      exact hn _ (Option.some.inj this)
  · obtain ⟨⟨cs', T, fr, hh, _, ht, _⟩, _⟩ := hex _ e
    obtain ⟨_, cs2, hh2⟩ := own_type H.at_ hk
    exact ht (type_ne hh hh2)
  · obtain ⟨⟨cs', T, fr, hh, _, _, ht⟩, _⟩ := hex _ e
    obtain ⟨_, cs2, hh2⟩ := own_type H.what hk
    exact ht (type_ne hh hh2)

theorem has_few (D g n : Nat) (v : Value) (c : Int) (at_ : Nat) (w : World) (_H : Rec w D g n v c) :
    Calls Try.prog 31 #[.pointer (some ⟨D, 0, none⟩), .int .i64 at_, .int .i64 0] w fun e w' => e = .returned (.bool false) ∧ w = w' := by
  have d1 : decide ((0 : Int) ≤ (at_ : Int)) = true := decide_eq_true (by omega)
  go_enter Try.func31, Try.ntmps31
  go_wp2
  go_ret
  exact ⟨rfl, rfl⟩
theorem has_past (D g n : Nat) (v : Value) (c : Int) (m : Nat) (h1 : n < m) (hm : m ≤ 1000000) (w : World) (H : Rec w D g n v c) :
    Calls Try.prog 31 #[.pointer (some ⟨D, 0, none⟩), .int .i64 0, .int .i64 m] w fun e w' => e = .returned (.bool false) ∧ w = w' := by
  have d2 : decide ((1 : Int) ≤ (m : Int)) = true := decide_eq_true (by omega)
  have d3 : decide ((m : Int) ≤ (n : Int)) = false := decide_eq_false (by omega)
  have d3' : decide (m ≤ n) = false := decide_eq_false (by omega)
  go_enter Try.func31, Try.ntmps31
  go_wp2_with fail
  refine (size_any D g n v c w H).mono ?_
  rintro e w1 ⟨rfl, rfl⟩
  go_wp2
  go_ret
  exact ⟨rfl, rfl⟩
theorem write_nil (D g : Nat) (n : Nat) (v : Value) (lc : Int) (at_ : Nat) (p : Option Addr) (c : Nat) (w : World) (H : Rec w D g n v lc) :
    Calls Try.prog 11 #[.pointer (some ⟨D, 0, none⟩), .int .i64 at_, .slice p 0 c] w fun e w' => e = .returned (.int .i64 2) ∧ Below w.heap.size w w' := by
  have hb1 := bA (bA (Below.refl w.heap.size w) (.cells #[.pointer (some ⟨D, 0, none⟩)] 26)) (.cells #[.int .i64 at_] 3)
  have hR : Rec ((w.alloc (.cells #[.pointer (some ⟨D, 0, none⟩)] 26)).alloc (.cells #[.int .i64 at_] 3)) D g n v lc := (Chg.below hb1 (fun _ => False)).box H (fun e => e)
  have hm1 : ((w.alloc (.cells #[.pointer (some ⟨D, 0, none⟩)] 26)).alloc (.cells #[.int .i64 at_] 3)).cell? ⟨w.heap.size, 0, none⟩ = some (.pointer (some ⟨D, 0, none⟩)) := by
    rw [cell_in ((Below.heap_alloc _ _ _ (by simp)).trans (heap_new w _))]
    rfl
  have HB1 := Lib.hid hb1
  clear hb1 H
  refine (callsIn_wide (n := 5)).1 ?_
  refine callsIn_of_wp_marks Try.func11 rfl trivial ?_ rfl
  simp only [Try.ntmps11, List.size_toArray, List.length_cons, List.length_nil, Nat.reduceAdd, Nat.reduceSub, Array.replicate_succ, Array.replicate_zero, List.push_toArray, List.append_toArray, List.nil_append, List.cons_append]
  gi_wp2_with fail
  refine ⟨trivial, (callsIn_wide.2 (has_few D g n v lc at_ _ hR)).mono ?_⟩
  rintro e w2 ⟨rfl, rfl⟩
  gi_wp2
  exact ⟨_, results_tmp rfl _ _ _, rfl, HB1.out⟩
theorem read_past (D g n : Nat) (v : Value) (c : Int) (m : Nat) (h1 : n < m) (hm : m ≤ 1000000) (w : World) (H : Rec w D g n v c) :
    Calls Try.prog 28 #[.pointer (some ⟨D, 0, none⟩), .int .i64 0, .int .i64 m] w fun e w' => e = .returned (.tuple #[.slice none 0 0, .int .i64 2]) ∧ Below w.heap.size w w' := by
  have hh := fun W (HW : Rec W D g n v c) => has_past D g n v c m h1 hm W HW
  clear h1
  go_enter Try.func28, Try.ntmps28
  go_wp2_with fail
  have hb1 := bA (Below.refl w.heap.size w) (.cells #[.int .i64 0] 3)
  refine (hh _ ((Chg.below hb1 (fun _ => False)).box H (fun e => e))).mono ?_
  rintro e w1 ⟨rfl, rfl⟩
  go_wp2
  go_ret2
  exact ⟨rfl, hb1⟩
set_option maxRecDepth 20000 in
set_option maxHeartbeats 8000000 in
theorem sopen_bad (D g n : Nat) (v : Value) (c z : Int) (hz : z < 1 ∨ (n : Int) < 2 * z) (w : World) (H : Rec w D g n v c) :
    Calls Try.prog 19 #[.pointer (some ⟨D, 0, none⟩), .int .i64 0, .int .i64 z] w fun e w' => e = .returned (.tuple #[.pointer none, .agg #[.int .i64 0, .slice none 0 0], .bool false, .int .i64 2]) ∧ Below w.heap.size w w' := by
  obtain ⟨X, hX⟩ : ∃ X, w.heap.size = X := ⟨_, rfl⟩
  obtain ⟨w1, hw1⟩ : ∃ w1, w.alloc (.cells #[.int .i64 0, .slice none 0 0] 48) = w1 := ⟨_, rfl⟩
  have hb1 : Below w.heap.size w w1 := by rw [← hw1]; exact bA (Below.refl _ _) _
  have hX1 : w1.heap[X]? = some (.cells #[.int .i64 0, .slice none 0 0] 48 (0, 0)) := by rw [← hw1, ← hX]; exact heap_new w _
  have hR1 : Rec w1 D g n v c := (Chg.below hb1 (fun _ => False)).box H (fun e => e)
  have fin : ∀ W, Below w1.heap.size w1 W → W.heap[X]? = some (.cells #[.int .i64 0, .slice none 0 0] 48 (0, 0)) ∧ Below w.heap.size w ((W.setCell ⟨X, 0, none⟩ (.int .i64 0)).setCell ⟨X, 1, none⟩ (.slice none 0 0)) := by
    intro W hW
    have h1 := (Chg.below hW (fun _ => False)).box hX1 (fun e => e)
    have hc9 : Chg (fun k => k = X) W ((W.setCell ⟨X, 0, none⟩ (.int .i64 0)).setCell ⟨X, 1, none⟩ (.slice none 0 0)) := (Chg.setCell W ⟨X, 0, none⟩ _).trans (Chg.setCell _ ⟨X, 1, none⟩ _)
    have hb := hb1.trans (hW.mono hb1.size)
    exact ⟨h1, hc9.on hb hb.size (fun k e => by rw [e, hX]; exact Nat.le_refl _)⟩
  have HFIN := Lib.hid fin
  have HW1 := Lib.hid hw1
  have HX := Lib.hid hX
  by_cases ha : z < 1 ∨ 65536 < z
  · obtain ⟨hf1, hf2⟩ := fin w1 (Below.refl _ _)
    have kx0 : w1.cell? ⟨X, 0, none⟩ = some (.int .i64 0) := by rw [cell_in hf1]; rfl
    have kx1 : w1.cell? ⟨X, 1, none⟩ = some (.slice none 0 0) := by rw [cell_in hf1]; rfl
    have fx0 := frozen_in hf1 0
    have fx1 := frozen_in hf1 1
    have HF1 := Lib.hid hf1
    have HB1 := Lib.hid hb1
    rw [← hw1] at kx0 kx1 fx0 fx1
    rw [← hX] at kx0 kx1 fx0 fx1
    clear fin hw1 hX hb1 hX1 hR1 H hf1 hf2
    by_cases hb : z < 1
    · have d1 : decide (z < 1) = true := decide_eq_true hb
      clear ha hz
      go_enter Try.func19, Try.ntmps19
      go_wp2
      rw [HW1.out, HX.out]
      exact bodyPost_ret (results_open rfl _ _ _ ⟨X, 0, none⟩ _ rfl (load2 HF1.out)) rfl ⟨rfl, by rw [← HX.out]; exact HB1.out⟩
    · have d1 : decide (z < 1) = false := decide_eq_false hb
      have d2 : decide (65536 < z) = true := decide_eq_true (by omega)
      clear ha hz
      go_enter Try.func19, Try.ntmps19
      go_wp2
      rw [HW1.out, HX.out]
      exact bodyPost_ret (results_open rfl _ _ _ ⟨X, 0, none⟩ _ rfl (load2 HF1.out)) rfl ⟨rfl, by rw [← HX.out]; exact HB1.out⟩
  · obtain ⟨m, hm⟩ : ∃ m : Nat, z = (m : Int) := ⟨z.toNat, by omega⟩
    obtain ⟨N, hN⟩ : ∃ N : Nat, N = 2 * m := ⟨_, rfl⟩
    have hNi : (2 : Int) * (m : Int) = (N : Int) := by omega
    have d1 : decide (z < 1) = false := decide_eq_false (by omega)
    have d2 : decide (65536 < z) = false := decide_eq_false (by omega)
    have hrd := read_past D g n v c N (by omega) (by omega) w1 hR1
    rw [hm] at d1 d2 ⊢
    have d2' : decide (65536 < m) = false := decide_eq_false (by omega)
    have hmb : N ≤ 131072 := by omega
    clear fin hX hb1 hX1 hR1 H ha hz hN
    rw [← hw1] at hrd
    clear hw1
    go_enter Try.func19, Try.ntmps19
    go_wp2_with fail
    refine hrd.mono ?_
    clear hrd
    rintro e w2 ⟨rfl, hb2⟩
    rw [HW1.out] at hb2
    obtain ⟨hf1, hf2⟩ := HFIN.out w2 hb2
    have kx0 : w2.cell? ⟨X, 0, none⟩ = some (.int .i64 0) := by rw [cell_in hf1]; rfl
    have kx1 : w2.cell? ⟨X, 1, none⟩ = some (.slice none 0 0) := by rw [cell_in hf1]; rfl
    have fx0 := frozen_in hf1 0
    have fx1 := frozen_in hf1 1
    have HF1 := Lib.hid hf1
    have HF2 := Lib.hid hf2
    rw [HX.out]
    clear hf1 hf2 hb2
    go_wp2
    exact bodyPost_ret (results_open rfl _ _ _ ⟨X, 0, none⟩ _ rfl (load2 (set2s_heap HF1.out (.int .i64 0) (.slice none 0 0)))) rfl ⟨rfl, by rw [← HX.out]; rw [← HX.out] at HF2; exact HF2.out⟩

/-- Both disks. -/
structure Two (w0 wr : World) (D g R lo n2 : Nat) (ws : List Wq) (pos : List Nat) (B : List Sec) : Prop where
  ex : ∃ v va vw, DiskAt wr D g (zeroS n2) v ws (-1) ∧ RA wr R lo (zeroS n2) va vw pos B ∧ (∀ k, v.ownBlock = some k → lo ≤ k)
  ord : D ≠ g ∧ D < R ∧ g < R ∧ R < lo ∧ w0.heap.size ≤ D ∧ w0.heap.size ≤ g ∧ 1 ≤ n2
  below : Below w0.heap.size w0 wr
theorem Two.on {w0 wr w' : World} {D g R lo n2 : Nat} {ws : List Wq} {pos : List Nat} {B : List Sec} (H : Two w0 wr D g R lo n2 ws pos B) (hb : Below wr.heap.size wr w') : Two w0 w' D g R lo n2 ws pos B := by
  obtain ⟨v, va, vw, hd, hr, hv⟩ := H.ex
  exact ⟨⟨v, va, vw, hd.on hb, hr.on hb, hv⟩, H.ord, H.below.trans (hb.mono H.below.size)⟩
theorem pieces_nil (a : Nat) : piecesW a [] = [] := by rw [pieces_pad]; rfl
theorem Two.write {w0 wr : World} {D g R lo n2 : Nat} {ws : List Wq} {pos : List Nat} {B : List Sec} (H : Two w0 wr D g R lo n2 ws pos B) (at_ : Nat) (p : Option Addr) (c : Nat) (x : List UInt8) (hx : InAt w0 p x) (hc0 : x.length ≤ c) (hc : c ≤ 9223372036854775807) (hat : at_ + (x.length + 63) / 64 ≤ n2) (hn2 : n2 ≤ 1000) (hws : ws.length ≤ 1000) :
    Calls Try.prog 11 #[.pointer (some ⟨D, 0, none⟩), .int .i64 at_, .slice p x.length c] wr fun e w' => (∃ z : Int, e = .returned (.int .i64 z)) ∧ Two w0 w' D g R lo n2 (ws ++ piecesW at_ x) pos B ∧ wr.heap.size ≤ w'.heap.size := by
  obtain ⟨v, va, vw, hd, hr, hv⟩ := H.ex
  obtain ⟨o1, o2, o3, o4, o5, o6, o7⟩ := H.ord
  by_cases h0 : x.length = 0
  · obtain rfl : x = [] := List.length_eq_zero_iff.1 h0
    refine (write_nil D g _ v (-1) at_ p c wr hd.box).mono ?_
    rintro e w' ⟨rfl, hb⟩
    rw [pieces_nil, List.append_nil]
    exact ⟨⟨2, rfl⟩, H.on hb, hb.size⟩
  · obtain ⟨b, o, rfl, hrg⟩ := hx (by omega)
    have hbl : b < w0.heap.size := InAt.lt hx (by omega)
    have hrg2 : wr.rangeAt b o (bCells x) := (Chg.below H.below (fun _ => False)).range hrg (fun e => e)
    have hlol := hr.lolow
    refine (write_any D g (zeroS n2) v ws (-1) (by decide) (by decide) at_ b o c x (by omega) hc0 hc (by rw [zero_cells]; exact hat) (by omega) wr hd o1 hrg2 (by omega) (fun e => by have := hv b e; omega)).mono ?_
    rintro e w' ⟨rfl, v', hd', hch, hv'⟩
    refine ⟨⟨0, rfl⟩, ⟨⟨v', va, vw, hd', ?_, fun k hk => ?_⟩, H.ord, ?_⟩, hch.size⟩
    · refine hr.apart (by rw [zero_cells]; exact o7) hch (fun k hk => ?_)
      rcases hk with hk | hk
      · subst hk
        refine ⟨⟨_, _, _, hd.box, by decide, by decide, by decide⟩, Or.inr ⟨_, hd.box.cells.1, fun x e => by cases e⟩⟩
      · obtain ⟨hk1, cs, hk2⟩ := own_type hd.row hk
        exact ⟨⟨_, _, _, hk2, by decide, by decide, by decide⟩, Or.inl (hv k hk)⟩
    · rcases hv' k hk with h | h
      · exact hv k h
      · omega
    · refine hch.on H.below H.below.size (fun k hk => ?_)
      rcases hk with hk | hk
      · omega
      · have := hv k hk
        omega
theorem Two.rwrite {w0 wr : World} {D g R lo n2 : Nat} {ws : List Wq} {pos : List Nat} {B : List Sec} (H : Two w0 wr D g R lo n2 ws pos B) (at_ : Nat) (p : Option Addr) (c : Nat) (x : List UInt8) (hx : InAt w0 p x) (hc0 : x.length ≤ c) (hc : c ≤ 9223372036854775807) (hat : at_ + (x.length + 63) / 64 ≤ n2) (hn2 : n2 ≤ 1000) (hpb : pos.length ≤ 1000 ∧ B.length ≤ 1000) :
    Calls Try.prog 12 #[.pointer (some ⟨R, 0, none⟩), .int .i64 at_, .slice p x.length c] wr fun e w' => (∃ z : Int, e = .returned (.int .i64 z)) ∧ Two w0 w' D g R lo n2 ws (pos ++ (List.range (cutS x).length).map (at_ + ·)) (B ++ cutS x) ∧ wr.heap.size ≤ w'.heap.size := by
  obtain ⟨v, va, vw, hd, hr, hv⟩ := H.ex
  obtain ⟨o1, o2, o3, o4, o5, o6, o7⟩ := H.ord
  by_cases h0 : x.length = 0
  · obtain rfl : x = [] := List.length_eq_zero_iff.1 h0
    refine (refwrite_nil hr at_ p c).mono ?_
    rintro e w' ⟨rfl, rfl⟩
    refine ⟨⟨2, rfl⟩, ?_, Nat.le_refl _⟩
    have e1 : cutS [] = [] := rfl
    rw [e1, List.append_nil]
    simpa using H
  · obtain ⟨b, o, rfl, hrg⟩ := hx (by omega)
    have hbl : b < w0.heap.size := InAt.lt hx (by omega)
    have hrg2 : wr.rangeAt b o (bCells x) := (Chg.below H.below (fun _ => False)).range hrg (fun e => e)
    have hlol := hr.lolow
    refine (refwrite_any hr at_ b o c x (by omega) (by omega) hc0 hc (by rw [zero_cells]; exact hat) (by rw [zero_cells]; exact hn2) hpb hrg2).mono ?_
    rintro e w' ⟨rfl, va', vw', hr', hch⟩
    refine ⟨⟨0, rfl⟩, ⟨⟨v, va', vw', ?_, hr', hv⟩, H.ord, ?_⟩, hch.size⟩
    · refine hd.chg hch (fun e => ?_) (fun e => ?_) (fun k hk e => ?_)
      · rcases e with e | e | e
        · omega
        · have := (own_type hr.at_ e).1; omega
        · have := (own_type hr.what e).1; omega
      · rcases e with e | e | e
        · omega
        · have := (own_type hr.at_ e).1; omega
        · have := (own_type hr.what e).1; omega
      · have hk1 := hv k hk
        obtain ⟨_, cs, hk2⟩ := own_type hd.row hk
        rcases e with e | e | e
        · omega
        · obtain ⟨_, cs', h2⟩ := own_type hr.at_ e
          exact absurd (type_ne hk2 h2) (by decide)
        · obtain ⟨_, cs', h2⟩ := own_type hr.what e
          exact absurd (type_ne hk2 h2) (by decide)
    · refine hch.on H.below H.below.size (fun k hk => ?_)
      rcases hk with hk | hk | hk
      · omega
      · have := (own_type hr.at_ hk).1; omega
      · have := (own_type hr.what hk).1; omega
end Go.Proofs.Ytgcifhhbhoafcaa
