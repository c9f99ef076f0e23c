/-
  The body that sectors hold.
-/
import Derived.Test.YtgcifhhbhoafcaaLogPack
namespace Go.Proofs.Ytgcifhhbhoafcaa
open Go.RowKit Go.Shelf
attribute [local go_sem] Oper.semAt_some

/-- The bytes that these pieces hold. -/
def flatP (data : List UInt8) {L : Nat} (pre : List (Pc L)) : List UInt8 := (pre.map fun x => (data.drop (x.1.1 + 1)).take (x.1.2 - 1)).flatten
theorem flatP_snoc (data : List UInt8) {L : Nat} (pre : List (Pc L)) (x : Pc L) : flatP data (pre ++ [x]) = flatP data pre ++ (data.drop (x.1.1 + 1)).take (x.1.2 - 1) := by simp [flatP]
theorem flat_64 (S : List Sec) (h : ∀ s ∈ S, s.length = 64) : S.flatten.length = S.length * 64 := by
  have := flatG_len (fun s : Sec => s) 64 S h
  simpa using this
theorem flat_drop : ∀ (S : List Sec) (_ : ∀ s ∈ S, s.length = 64) (k : Nat) (hk : k < S.length), (S.flatten.drop (64 * k + 1)).take 63 = S[k].drop 1
  | s :: S, h, 0, _ => by
    have hs := h s List.mem_cons_self
    rw [List.flatten_cons, List.drop_append_of_le_length (by omega), List.take_append_of_le_length (by rw [List.length_drop]; omega), List.take_of_length_le (by rw [List.length_drop]; omega)]
    rfl
  | s :: S, h, k + 1, hk => by
    have hs := h s List.mem_cons_self
    rw [List.flatten_cons, show 64 * (k + 1) + 1 = s.length + (64 * k + 1) by omega, List.drop_length_add_append, flat_drop S (fun y hy => h y (List.mem_cons_of_mem _ hy)) k (by simpa using hk)]
    rfl
theorem flatP_all (S : List Sec) (h : ∀ s ∈ S, s.length = 64) : flatP S.flatten (pcs (S.length * 64)) = (S.map (·.drop 1)).flatten := by
  unfold flatP pcs
  rw [List.map_map]
  congr 1
  apply List.ext_getElem
  · simp; omega
  · intro i h1 h2
    have hi : i < S.length := by simpa using h2
    simp only [List.getElem_map, List.getElem_finRange, Function.comp, Fin.cast_mk]
    rw [show min 64 (S.length * 64 - 64 * i) - 1 = 63 by omega, flat_drop S h i hi]
theorem dCells_flat (S : List Sec) : dCells S = bCells S.flatten := by
  unfold dCells bCells
  rw [List.map_flatten]

structure UInv (data : List UInt8) (B T n : Nat) (w5 : World) (L : Nat) (pre : List (Pc L)) (W : World) : Prop where
  row : W.heap[B]? = some (.cells (bCells ((flatP data pre).take n) ++ List.replicate (n - (flatP data pre).length) (Value.int .u8 0)).toArray 5 (0, 0))
  rest : ∃ f, W.heap[T]? = some (.cells #[.slice (some ⟨B, f, none⟩) (n - (flatP data pre).length) (n - (flatP data pre).length)] 22 (0, 0)) ∧ f ≤ n ∧ ((flatP data pre).length < n → f = (flatP data pre).length)
  chg : Chg (fun k => k = B ∨ k = T) w5 W
theorem UInv.own (data : List UInt8) (B T n : Nat) (w5 : World) (L : Nat) : OwnFrom w5.heap.size (UInv data B T n w5 L) := fun pre W W' row hs hg hr => by
  have hk : ∀ {k : Nat} {c : Array Value} {t : TypeId} {fr : Nat × Nat}, W.heap[k]? = some (.cells c t fr) → W'.heap[k]? = some (.cells c t fr) := fun {k c t fr} h => by
    refine (hg.block k (Array.getElem?_eq_some_iff.1 h).1 (fun e => ?_)).trans h
    obtain ⟨_, o, ho, hc⟩ := hr k e.symm
    rw [h] at ho
    cases ho
    cases hc
  obtain ⟨f, h1, h2⟩ := hs.rest
  exact ⟨hk hs.row, ⟨f, hk h1, h2⟩, ownFrom_chg (β := Unit) (Nat.le_refl _) () W W' row hs.chg hg hr⟩
/-- What is stored. -/
theorem up_set (a pc : List UInt8) (n f m k : Nat) (hm : m = n - a.length) (hk : k = min pc.length m) (hf : f ≤ n) (hf2 : a.length < n → f = a.length) :
    (bCells (a.take n) ++ List.replicate m (Value.int .u8 0)).take f ++ bCells (pc.take m) ++ (bCells (a.take n) ++ List.replicate m (Value.int .u8 0)).drop (f + k) = bCells ((a ++ pc).take n) ++ List.replicate (n - (a ++ pc).length) (Value.int .u8 0) := by
  by_cases h : a.length < n
  · have e := hf2 h
    subst e
    have e1 : a.take n = a := List.take_of_length_le (by omega)
    have e2 : (a ++ pc).take n = a ++ pc.take m := by rw [List.take_append, e1, hm]
    rw [e1, e2, List.take_append_of_le_length (by rw [bCells_len]; omega), List.take_of_length_le (by rw [bCells_len]; omega), List.drop_append, List.drop_eq_nil_of_le (by rw [bCells_len]; omega), List.nil_append, bCells_len, List.drop_replicate, bCells_app, List.length_append]
    congr 2
    omega
  · have e0 : m = 0 := by omega
    subst e0
    have e2 : (a ++ pc).take n = a.take n := by rw [List.take_append, show n - a.length = 0 by omega]; simp
    rw [e2, List.take_zero, List.length_append, show n - (a.length + pc.length) = 0 by omega, show k = 0 by omega]
    simp [bCells]

set_option maxRecDepth 100000 in
set_option maxHeartbeats 2000000 in
theorem unpack_any (b o : Nat) (c : Nat) (S : List Sec) (n : Nat) (hn : n ≤ 1048576) (hS : ∀ s ∈ S, s.length = 64) (hSn : n ≤ S.length * 63) (hSl : S.length ≤ 15000) (hbc : S.length * 64 ≤ c) (hc : c ≤ 9223372036854775807) (w : World) (hb63 : b < w.heap.size) (hr : w.rangeAt b o (dCells S)) :
    Calls Try.prog 66 #[.slice (some ⟨b, o, none⟩) (S.length * 64) c, .int .i64 n] w fun e w' => e = .returned (.slice (some ⟨w.heap.size, 0, none⟩) n n) ∧ w'.heap[w.heap.size]? = some (.cells (bCells (unpacked S n)).toArray 5 (0, 0)) ∧ Below w.heap.size w w' := by
  rw [dCells_flat] at hr
  obtain ⟨data, hd⟩ : ∃ data, data = S.flatten := ⟨_, rfl⟩
  have hdl := flat_64 S hS
  have hend : unpacked S n = (flatP data (pcs (S.length * 64))).take n := by rw [hd, flatP_all S hS]; rfl
  have hendl : n ≤ (flatP data (pcs (S.length * 64))).length := by rw [hd, flatP_all S hS, flatG_len (fun s : Sec => s.drop 1) 63 S (fun s hs => by simp [hS s hs])]; exact hSn
  rw [← hd] at hr hdl
  obtain ⟨L, hL⟩ : ∃ L, L = S.length * 64 := ⟨_, rfl⟩
  rw [← hL] at hend hendl hdl hbc ⊢
  have hL1 : L ≤ 1000000 := by omega
  have HEND := Lib.hid hend
  have HENDL := Lib.hid hendl
  have HDL := Lib.hid hdl
  have HR := Lib.hid hr
  have hmk := make_u8 w n (by omega)
  obtain ⟨w1, hw1⟩ : ∃ w1, w.alloc (.cells (List.replicate n (Value.int .u8 0)).toArray 5) = w1 := ⟨_, rfl⟩
  rw [hw1] at hmk
  have hR1 : w1.heap[w.heap.size]? = some (.cells (List.replicate n (Value.int .u8 0)).toArray 5 (0, 0)) := by rw [← hw1]; exact heap_new w _
  have hb1 : Below w.heap.size w w1 := by rw [← hw1]; exact bA (Below.refl _ _) _
  have hs1 : w1.heap.size = w.heap.size + 1 := by rw [← hw1]; simp
  clear hw1 hr hd hend hendl hdl hSn hSl hS hL
  refine (callsIn_wide (n := 5)).1 ?_
  refine callsIn_of_wp_marks Try.func66 rfl trivial ?_ rfl
  simp only [Try.ntmps66, List.size_toArray, List.length_cons, List.length_nil, Nat.reduceAdd, Nat.reduceSub, Array.replicate_succ, Array.replicate_zero, List.push_toArray, List.append_toArray, List.nil_append, List.cons_append]
  gi_wp2_with fail
  obtain ⟨B, hB⟩ : ∃ B, w.heap.size = B := ⟨_, rfl⟩
  have HBE := Lib.hid hB
  rw [hB] at hR1 hb1 hs1 hb63 ⊢
  obtain ⟨w3, hw3⟩ : ∃ w3, w1.alloc (.cells #[.slice (some ⟨B, 0, none⟩) n n] 22) = w3 := ⟨_, rfl⟩
  have hb3 : Below B w w3 := by rw [← hw3]; exact hb1.alloc (by omega) _
  have hs3 : w3.heap.size = B + 2 := by rw [← hw3, World.size_alloc, hs1]
  have hR3 : w3.heap[B]? = some (.cells (List.replicate n (Value.int .u8 0)).toArray 5 (0, 0)) := by rw [← hw3]; exact (Below.heap_alloc _ _ _ (by omega)).trans hR1
  have hT3 : w3.heap[B + 1]? = some (.cells #[.slice (some ⟨B, 0, none⟩) n n] 22 (0, 0)) := by rw [← hw3, ← hs1]; exact heap_new w1 _
  rw [hw3]
  clear hw3 hR1 hb1 hs1 hB
  refine ⟨trivial, (callsIn_wide.2 (chunk_any (some ⟨b, o, none⟩) L c w3)).mono ?_⟩
  rintro e w5 ⟨rfl, hw5⟩
  have hb5 : Below w3.heap.size w3 w5 := by rw [hw5]; exact bA (bA (Below.refl _ _) _) _
  have hs5 : w5.heap.size = B + 4 := by rw [hw5]; simp; omega
  have hS5 : w5.heap[B + 2]? = some (.cells #[.slice (some ⟨b, o, none⟩) L c] 22 (0, 0)) := by rw [hw5, ← hs3]; exact (Below.heap_alloc _ _ _ (by simp)).trans (heap_new w3 _)
  have hN5 : w5.heap[B + 3]? = some (.cells #[.int .i64 64] 3 (0, 0)) := by
    rw [hw5, show B + 3 = (w3.alloc (.cells #[.slice (some ⟨b, o, none⟩) L c] 22)).heap.size by rw [World.size_alloc, hs3]]
    exact heap_new _ _
  have hc5 := Chg.below hb5 (fun _ => False)
  have HR5 := Lib.hid (hc5.box hR3 (fun e => e))
  have HT5 := Lib.hid (hc5.box hT3 (fun e => e))
  have HB5 := Lib.hid (hb3.trans (hb5.mono (by omega)))
  have HS5 := Lib.hid hS5
  have HN5 := Lib.hid hN5
  simp only [hs3]
  have HZ5 := Lib.hid hs5
  clear hw5 hb3 hs3 hR3 hT3 hb5 hs5 hS5 hN5 hc5
  gi_wp2
  refine wpIn_rangeFunc_ownH (n := 5) (α := Pc L) rfl (by decide) (gf := 50) (lb := #[.pointer (some ⟨B + 2, 0, none⟩), .pointer (some ⟨B + 2 + 1, 0, none⟩)]) rfl trivial (enters_of Try.func50 (by kernel_rfl) rfl)
    (chunk_stops 4 (B + 2) (B + 2 + 1) b o L c (by omega) hbc hc w5 HS5.out HN5.out) KeepB.trans
    (fun W l o o' hl ho _ _ => ⟨by simp, fun k hk => World.putObj_heap_other (fun e => by have := HZ5.out; omega)⟩) (Below.refl _ _) (fun _ => rfl)
    (UInv data B (B + 1) n w5 L)
    (fun _ _ _ => False)
    (UInv.own data B (B + 1) n w5 L)
    (fun _ _ _ _ _ hs _ _ => hs)
    ⟨by simpa [flatP, bCells] using HR5.out, ⟨0, by simpa [flatP] using HT5.out, by omega, fun _ => rfl⟩, Chg.refl _ _⟩
    (fun x a' W => a' = { tmps := #[.slice (some ⟨b, o, none⟩) L c, .int .i64 n, undef, undef, .slice none 0 0, .slice (some ⟨B, 0, none⟩) n n, .pointer (some ⟨B + 1, 0, none⟩), .slice (some ⟨b, o + x.1.1, none⟩) x.1.2 x.1.2, .int .i64 n, .slice (some ⟨B, 0, none⟩) n n, .slice (some ⟨B, 0, none⟩) n n, .slice (some ⟨b, o, none⟩) L c, .func (.func 50) #[] #[.pointer (some ⟨B + 2, 0, none⟩), .pointer (some ⟨B + 2 + 1, 0, none⟩)], .slice (some ⟨b, o + x.1.1, none⟩) x.1.2 x.1.2, undef, undef, undef, undef, undef, undef, undef], defers := [] })
    (fun x a' _ W W' row hs hg hr => hs) ?assign ?body ?done ?stop
  case assign =>
    intro l pre x W K hI hK
    have HK := Lib.hid hK
    have HI := Lib.hid hI
    clear hK hI
    simp only [encC]
    gi_wp2
    exact HK.out _ _ ((KeepsOthers.refl _).from _) (KeepB.refl _ _) HI.out rfl
  case body =>
    rintro l pre x a' W hl hr HI rfl hlt
    obtain ⟨⟨off, e⟩, hx1, hx2, hx3⟩ := x
    have hoe : off + e ≤ L := hx1
    have he1 : 1 ≤ e := hx2
    have he2 : e ≤ 64 := hx3
    obtain ⟨f, hv1, hf1, hf2⟩ := HI.rest
    have hrow := HI.row
    have HCH := Lib.hid HI.chg
    obtain ⟨fp, hfp⟩ : ∃ fp, flatP data pre = fp := ⟨_, rfl⟩
    rw [hfp] at hv1 hf2 hrow
    obtain ⟨m, hm⟩ : ∃ m, m = n - fp.length := ⟨_, rfl⟩
    rw [← hm] at hv1 hrow
    obtain ⟨pc, hpc⟩ : ∃ pc, pc = (data.drop (off + 1)).take (e - 1) := ⟨_, rfl⟩
    have hpl : pc.length = e - 1 := by rw [hpc, List.length_take, List.length_drop, HDL.out]; omega
    obtain ⟨k, hk⟩ : ∃ k, k = min (e - 1) m := ⟨_, rfl⟩
    have hpk : (pc.take m).length = k := by rw [List.length_take, hpl, hk, Nat.min_comm]
    have hbB : b ≠ B := by omega
    have HSRC := Lib.hid (show ∀ i u, (bCells (pc.take m))[i]? = some u → W.cell? ((⟨b, o + (off + 1), none⟩ : Addr).add i) = some u from fun i u hi => by
      rw [Addr.add_mid]
      have h1 : W.rangeAt b o (bCells data) := HCH.out.range ((Chg.below (show Below w.heap.size w w5 by rw [HBE.out]; exact HB5.out) (fun _ => False)).range HR.out (fun e => e)) (by omega)
      rw [hpc, List.take_take] at hi
      exact in_part h1 (off + 1) _ i u hi)
    have HTH := Lib.hid (show W.there B f (bCells (pc.take m)).length from there_in hrow _ _ (by
      rw [List.size_toArray, List.length_append, bCells_len, List.length_replicate, bCells_len, hpk, List.length_take]
      by_cases h : fp.length < n
      · have := hf2 h
        omega
      · omega))
    obtain ⟨W2, hW2⟩ : ∃ W2, W.drew.setCells B f (bCells (pc.take m)) = W2 := ⟨_, rfl⟩
    have hc2 : Chg (fun k => k = B ∨ k = B + 1) W W2 := by rw [← hW2]; exact (Chg.drew _ W).trans ((chg_setCells B (bCells (pc.take m)) f W.drew).weaken (fun k _ e => .inl e))
    have hk2 : KeepsOthers W W2 := by rw [← hW2]; exact (KeepsOthers.drew W).trans (keeps_setCells B (bCells (pc.take m)) f W.drew)
    have hR2 : W2.heap[B]? = some (.cells (bCells ((fp ++ pc).take n) ++ List.replicate (n - (fp ++ pc).length) (Value.int .u8 0)).toArray 5 (0, 0)) := by
      have hth := HTH.out
      rw [← hW2, heap_setCells B (bCells (pc.take m)) f W.drew _ _ _ hrow (by
        rw [List.size_toArray, List.length_append, bCells_len, List.length_replicate, bCells_len, hpk, List.length_take]
        by_cases h : fp.length < n
        · have := hf2 h
          omega
        · omega), List.toList_toArray, bCells_len, hpk, up_set fp pc n f m k hm (by rw [hk, hpl]) hf1 hf2]
    have hT2 : W2.heap[B + 1]? = some (.cells #[.slice (some ⟨B, f, none⟩) m m] 22 (0, 0)) := by rw [← hW2]; exact (chg_setCells B (bCells (pc.take m)) f W.drew).box (w := W.drew) hv1 (by omega)
    have kT : W.drew.cell? ⟨B + 1, 0, none⟩ = some (.slice (some ⟨B, f, none⟩) m m) := by show W.cell? _ = _; rw [cell_in hv1]; rfl
    have kT2 : W2.cell? ⟨B + 1, 0, none⟩ = some (.slice (some ⟨B, f, none⟩) m m) := by rw [cell_in hT2]; rfl
    have fT2 := frozen_in hT2 0
    have hkm : k ≤ m := by omega
    have hmn : m ≤ n := by omega
    have hpk2 : (bCells (pc.take m)).length = k := by rw [bCells_len, hpk]
    have hkI : ((bCells (pc.take m)).length : Int) = (k : Int) := by rw [hpk2]
    have FIN : ∀ g, (m ≠ k → g = f + k) → (m = k → g = f) → KeepsOthers W (W2.setCell ⟨B + 1, 0, none⟩ (.slice (some ⟨B, g, none⟩) (m - k) (m - k))) ∧ KeepB (fun k => k = B + 2 ∨ k = B + 2 + 1) W (W2.setCell ⟨B + 1, 0, none⟩ (.slice (some ⟨B, g, none⟩) (m - k) (m - k))) ∧ UInv data B (B + 1) n w5 L (pre ++ [(⟨(off, e), hx1, hx2, hx3⟩ : Pc L)]) (W2.setCell ⟨B + 1, 0, none⟩ (.slice (some ⟨B, g, none⟩) (m - k) (m - k))) := fun g hg1 hg2 => by
      have hc3 := hc2.trans ((Chg.setCell W2 ⟨B + 1, 0, none⟩ (.slice (some ⟨B, g, none⟩) (m - k) (m - k))).weaken (fun k _ e => .inr e))
      have hsn : flatP data (pre ++ [(⟨(off, e), hx1, hx2, hx3⟩ : Pc L)]) = fp ++ pc := by rw [flatP_snoc, hfp, hpc]
      refine ⟨hk2.trans (KeepsOthers.setCell W2 _ _), KeepB.chg hc3 (fun k hk => ⟨by have := HCH.out.size; have := HZ5.out; omega, fun e => by omega⟩), ?_, ⟨g, ?_, ?_, ?_⟩, HCH.out.trans hc3⟩
      · rw [hsn]
        exact (Chg.setCell W2 ⟨B + 1, 0, none⟩ _).box hR2 (by show B ≠ B + 1; omega)
      · rw [hsn, setCell_eq_setRow W2 _ _ _ _ _ _ hT2, setRow_heap W2 _ _ _ _ _ hT2, List.length_append, hpl, show n - (fp.length + (e - 1)) = m - k by omega]
        rfl
      · by_cases h : m = k
        · rw [hg2 h]
          exact hf1
        · rw [hg1 h, hf2 (by omega)]
          omega
      · rw [hsn, List.length_append, hpl]
        intro h
        rw [hg1 (by omega), hf2 (by omega)]
        omega
    have HFIN := Lib.hid FIN
    have HW2 := Lib.hid hW2
    have HKB := Lib.hid (show (bCells (pc.take m)).length = Nat.min (e - 1) m by rw [hpk2, hk])
    have hmk1 : k ≤ e - 1 := by omega
    have hk63 : k ≤ 63 := by omega
    have heI : (1 : Int) ≤ (e : Int) := by omega
    have hkmI : (k : Int) ≤ (m : Int) := by omega
    have hk0I : (0 : Int) ≤ (k : Int) := by omega
    have hmb : m ≤ 1048576 := by omega
    have HK := Lib.hid hk
    have HPL := Lib.hid hpl
    clear FIN hW2 hk2 hR2 hT2 hc2 hrow hv1 hpk hpk2 hfp hm hpc HI hf1 hf2 hk hpl
    gi_wp2
    by_cases he : e = 1
    · by_cases hmk : m = k
      · obtain rfl : e = 1 := he
        have hpc0 : pc = [] := List.eq_nil_of_length_eq_zero HPL.out
        subst hpc0
        obtain rfl : k = 0 := by have := HK.out; omega
        have hb0 : (bCells ([] : List UInt8)).length = 0 := rfl
        obtain rfl : m = 0 := hmk
        refine region_round (S := fun _ => True) (by kernel_rfl) (by rintro ⟨_, _, h⟩; exact h) (by kernel_rfl) (trivial) (fun hHeld => ?_)
        refine wpAnyH_take (i := 2) (v := ?_) rfl (by kernel_rfl) (by kernel_rfl) (by kernel_rfl) (fun _ _ _ h => h) (Or.inl ⟨by rfl, ?_⟩) (by assumption) ?_
        rotate_left
        · (intro w hSw; (try dsimp only at hSw); go_simp; try (with_reducible rfl))
        try simp only [Act.put, List.setIfInBounds_toArray, List.set_cons_zero, List.set_cons_succ, List.getElem_toArray, List.getElem_cons_zero, List.getElem_cons_succ]
        refine wpAnyH_take (i := 3) (v := ?_) rfl (by kernel_rfl) (by kernel_rfl) (by kernel_rfl) (fun _ _ _ h => h) (Or.inl ⟨by rfl, ?_⟩) (by assumption) ?_
        rotate_left
        · (intro w hSw; (try dsimp only at hSw); go_simp; try (with_reducible rfl))
        try simp only [Act.put, List.setIfInBounds_toArray, List.set_cons_zero, List.set_cons_succ, List.getElem_toArray, List.getElem_cons_zero, List.getElem_cons_succ]
        refine wpAnyH_ready (rs := [0, 1]) (by kernel_rfl) (by simp) ?_
        refine AllReadyH.cons rfl (fun K hK => ?_) (AllReadyH.cons rfl (fun K hK => ?_) AllReadyH.nil)
        · go_simp
          refine hK.out _ _ (trivial) (fun hHeld2 => ?_)
          clear hK K hHeld
          have hHeld := hHeld2
          clear hHeld2
          try simp only [Act.put, List.setIfInBounds_toArray, List.set_cons_zero, List.set_cons_succ, List.getElem_toArray, List.getElem_cons_zero, List.getElem_cons_succ]
          refine wpAnyH_ready (rs := [1]) (by kernel_rfl) (by simp) ?_
          refine AllReadyH.cons rfl (fun K hK => ?_) AllReadyH.nil
          go_simp
          refine hK.out _ _ (trivial) (fun hHeld2 => ?_)
          clear hK K hHeld
          have hHeld := hHeld2
          clear hHeld2
          try simp only [Act.put, List.setIfInBounds_toArray, List.set_cons_zero, List.set_cons_succ, List.getElem_toArray, List.getElem_cons_zero, List.getElem_cons_succ]
          refine wpAnyH_ready (rs := [4]) (by kernel_rfl) (by simp) ?_
          refine AllReadyH.cons rfl (fun K hK => ?_) AllReadyH.nil
          rw [if_pos (by rfl)]
          refine wp_copy_cells (.tmp 15) (.tmp 17) 22 22 5 rfl B f 0 0 ⟨b, o + off, none⟩ 0 0 (bCells (([] : List UInt8).take 0)) rfl rfl Try.underlying22 size_u8 (by simp [bCells]) (fun i u hi => by simp [bCells] at hi) HTH.out (bCells_one _) ?_
          rw [HW2.out]
          refine hK.out _ _ (trivial) (fun hHeld2 => ?_)
          clear hK K hHeld
          have hHeld := hHeld2
          clear hHeld2
          try simp only [Act.put, List.setIfInBounds_toArray, List.set_cons_zero, List.set_cons_succ, List.getElem_toArray, List.getElem_cons_zero, List.getElem_cons_succ]
          try simp only [goInt]
          refine wpAnyH_take (i := 5) (v := ?_) rfl (by kernel_rfl) (by kernel_rfl) (by kernel_rfl) (fun _ _ _ h => h) (Or.inl ⟨by rfl, ?_⟩) (by assumption) ?_
          rotate_left
          · (intro w hSw; (try dsimp only at hSw); go_simp; try (with_reducible rfl))
          try simp only [Act.put, List.setIfInBounds_toArray, List.set_cons_zero, List.set_cons_succ, List.getElem_toArray, List.getElem_cons_zero, List.getElem_cons_succ]
          refine wpAnyH_ready (rs := [6]) (by kernel_rfl) (by simp) ?_
          refine AllReadyH.cons rfl (fun K hK => ?_) AllReadyH.nil
          go_simp
          refine hK.out _ _ (trivial) (fun hHeld2 => ?_)
          clear hK K hHeld
          have hHeld := hHeld2
          clear hHeld2
          try simp only [Act.put, List.setIfInBounds_toArray, List.set_cons_zero, List.set_cons_succ, List.getElem_toArray, List.getElem_cons_zero, List.getElem_cons_succ]
          refine wpAnyH_done (by kernel_rfl) ?_ _
          have hF := HFIN.out (f) (fun h => absurd rfl h) (fun _ => rfl)
          simp only [Nat.sub_self] at hF ⊢
          exact ⟨hF.1.from _, hF.2.1, hF.2.2⟩
        · go_simp
          refine hK.out _ _ (trivial) (fun hHeld2 => ?_)
          clear hK K hHeld
          have hHeld := hHeld2
          clear hHeld2
          try simp only [Act.put, List.setIfInBounds_toArray, List.set_cons_zero, List.set_cons_succ, List.getElem_toArray, List.getElem_cons_zero, List.getElem_cons_succ]
          refine wpAnyH_ready (rs := [0, 4]) (by kernel_rfl) (by simp) ?_
          refine AllReadyH.cons rfl (fun K hK => ?_) (AllReadyH.cons rfl (fun K hK => ?_) AllReadyH.nil)
          · go_simp
            refine hK.out _ _ (trivial) (fun hHeld2 => ?_)
            clear hK K hHeld
            have hHeld := hHeld2
            clear hHeld2
            try simp only [Act.put, List.setIfInBounds_toArray, List.set_cons_zero, List.set_cons_succ, List.getElem_toArray, List.getElem_cons_zero, List.getElem_cons_succ]
            refine wpAnyH_ready (rs := [4]) (by kernel_rfl) (by simp) ?_
            refine AllReadyH.cons rfl (fun K hK => ?_) AllReadyH.nil
            rw [if_pos (by rfl)]
            refine wp_copy_cells (.tmp 15) (.tmp 17) 22 22 5 rfl B f 0 0 ⟨b, o + off, none⟩ 0 0 (bCells (([] : List UInt8).take 0)) rfl rfl Try.underlying22 size_u8 (by simp [bCells]) (fun i u hi => by simp [bCells] at hi) HTH.out (bCells_one _) ?_
            rw [HW2.out]
            refine hK.out _ _ (trivial) (fun hHeld2 => ?_)
            clear hK K hHeld
            have hHeld := hHeld2
            clear hHeld2
            try simp only [Act.put, List.setIfInBounds_toArray, List.set_cons_zero, List.set_cons_succ, List.getElem_toArray, List.getElem_cons_zero, List.getElem_cons_succ]
            try simp only [goInt]
            refine wpAnyH_take (i := 5) (v := ?_) rfl (by kernel_rfl) (by kernel_rfl) (by kernel_rfl) (fun _ _ _ h => h) (Or.inl ⟨by rfl, ?_⟩) (by assumption) ?_
            rotate_left
            · (intro w hSw; (try dsimp only at hSw); go_simp; try (with_reducible rfl))
            try simp only [Act.put, List.setIfInBounds_toArray, List.set_cons_zero, List.set_cons_succ, List.getElem_toArray, List.getElem_cons_zero, List.getElem_cons_succ]
            refine wpAnyH_ready (rs := [6]) (by kernel_rfl) (by simp) ?_
            refine AllReadyH.cons rfl (fun K hK => ?_) AllReadyH.nil
            go_simp
            refine hK.out _ _ (trivial) (fun hHeld2 => ?_)
            clear hK K hHeld
            have hHeld := hHeld2
            clear hHeld2
            try simp only [Act.put, List.setIfInBounds_toArray, List.set_cons_zero, List.set_cons_succ, List.getElem_toArray, List.getElem_cons_zero, List.getElem_cons_succ]
            refine wpAnyH_done (by kernel_rfl) ?_ _
            have hF := HFIN.out (f) (fun h => absurd rfl h) (fun _ => rfl)
            simp only [Nat.sub_self] at hF ⊢
            exact ⟨hF.1.from _, hF.2.1, hF.2.2⟩
          · rw [if_pos (by rfl)]
            refine wp_copy_cells (.tmp 15) (.tmp 17) 22 22 5 rfl B f 0 0 ⟨b, o + off, none⟩ 0 0 (bCells (([] : List UInt8).take 0)) rfl rfl Try.underlying22 size_u8 (by simp [bCells]) (fun i u hi => by simp [bCells] at hi) HTH.out (bCells_one _) ?_
            rw [HW2.out]
            refine hK.out _ _ (trivial) (fun hHeld2 => ?_)
            clear hK K hHeld
            have hHeld := hHeld2
            clear hHeld2
            try simp only [Act.put, List.setIfInBounds_toArray, List.set_cons_zero, List.set_cons_succ, List.getElem_toArray, List.getElem_cons_zero, List.getElem_cons_succ]
            refine wpAnyH_ready (rs := [0]) (by kernel_rfl) (by simp) ?_
            refine AllReadyH.cons rfl (fun K hK => ?_) AllReadyH.nil
            go_simp
            refine hK.out _ _ (trivial) (fun hHeld2 => ?_)
            clear hK K hHeld
            have hHeld := hHeld2
            clear hHeld2
            try simp only [Act.put, List.setIfInBounds_toArray, List.set_cons_zero, List.set_cons_succ, List.getElem_toArray, List.getElem_cons_zero, List.getElem_cons_succ]
            try simp only [hb0]
            refine wpAnyH_take (i := 5) (v := ?_) rfl (by kernel_rfl) (by kernel_rfl) (by kernel_rfl) (fun _ _ _ h => h) (Or.inl ⟨by rfl, ?_⟩) (by assumption) ?_
            rotate_left
            · (intro w hSw; (try dsimp only at hSw); go_simp; try (with_reducible rfl))
            try simp only [Act.put, List.setIfInBounds_toArray, List.set_cons_zero, List.set_cons_succ, List.getElem_toArray, List.getElem_cons_zero, List.getElem_cons_succ]
            refine wpAnyH_ready (rs := [6]) (by kernel_rfl) (by simp) ?_
            refine AllReadyH.cons rfl (fun K hK => ?_) AllReadyH.nil
            go_simp
            refine hK.out _ _ (trivial) (fun hHeld2 => ?_)
            clear hK K hHeld
            have hHeld := hHeld2
            clear hHeld2
            try simp only [Act.put, List.setIfInBounds_toArray, List.set_cons_zero, List.set_cons_succ, List.getElem_toArray, List.getElem_cons_zero, List.getElem_cons_succ]
            refine wpAnyH_done (by kernel_rfl) ?_ _
            have hF := HFIN.out (f) (fun h => absurd rfl h) (fun _ => rfl)
            simp only [Nat.sub_self] at hF ⊢
            exact ⟨hF.1.from _, hF.2.1, hF.2.2⟩
      · obtain rfl : e = 1 := he
        have hpc0 : pc = [] := List.eq_nil_of_length_eq_zero HPL.out
        subst hpc0
        obtain rfl : k = 0 := by have := HK.out; omega
        have hb0 : (bCells ([] : List UInt8)).length = 0 := rfl
        have hmz : (m = 0) = False := eq_false hmk
        refine region_round (S := fun _ => True) (by kernel_rfl) (by rintro ⟨_, _, h⟩; exact h) (by kernel_rfl) (trivial) (fun hHeld => ?_)
        refine wpAnyH_take (i := 2) (v := ?_) rfl (by kernel_rfl) (by kernel_rfl) (by kernel_rfl) (fun _ _ _ h => h) (Or.inl ⟨by rfl, ?_⟩) (by assumption) ?_
        rotate_left
        · (intro w hSw; (try dsimp only at hSw); go_simp; try (with_reducible rfl))
        try simp only [Act.put, List.setIfInBounds_toArray, List.set_cons_zero, List.set_cons_succ, List.getElem_toArray, List.getElem_cons_zero, List.getElem_cons_succ]
        refine wpAnyH_take (i := 3) (v := ?_) rfl (by kernel_rfl) (by kernel_rfl) (by kernel_rfl) (fun _ _ _ h => h) (Or.inl ⟨by rfl, ?_⟩) (by assumption) ?_
        rotate_left
        · (intro w hSw; (try dsimp only at hSw); go_simp; try (with_reducible rfl))
        try simp only [Act.put, List.setIfInBounds_toArray, List.set_cons_zero, List.set_cons_succ, List.getElem_toArray, List.getElem_cons_zero, List.getElem_cons_succ]
        refine wpAnyH_ready (rs := [0, 1]) (by kernel_rfl) (by simp) ?_
        refine AllReadyH.cons rfl (fun K hK => ?_) (AllReadyH.cons rfl (fun K hK => ?_) AllReadyH.nil)
        · go_simp
          refine hK.out _ _ (trivial) (fun hHeld2 => ?_)
          clear hK K hHeld
          have hHeld := hHeld2
          clear hHeld2
          try simp only [Act.put, List.setIfInBounds_toArray, List.set_cons_zero, List.set_cons_succ, List.getElem_toArray, List.getElem_cons_zero, List.getElem_cons_succ]
          refine wpAnyH_ready (rs := [1]) (by kernel_rfl) (by simp) ?_
          refine AllReadyH.cons rfl (fun K hK => ?_) AllReadyH.nil
          go_simp
          refine hK.out _ _ (trivial) (fun hHeld2 => ?_)
          clear hK K hHeld
          have hHeld := hHeld2
          clear hHeld2
          try simp only [Act.put, List.setIfInBounds_toArray, List.set_cons_zero, List.set_cons_succ, List.getElem_toArray, List.getElem_cons_zero, List.getElem_cons_succ]
          refine wpAnyH_ready (rs := [4]) (by kernel_rfl) (by simp) ?_
          refine AllReadyH.cons rfl (fun K hK => ?_) AllReadyH.nil
          rw [if_pos (by rfl)]
          refine wp_copy_cells (.tmp 15) (.tmp 17) 22 22 5 rfl B f m m ⟨b, o + off, none⟩ 0 0 (bCells (([] : List UInt8).take m)) rfl rfl Try.underlying22 size_u8 (by simp [bCells]) (fun i u hi => by simp [bCells] at hi) HTH.out (bCells_one _) ?_
          rw [HW2.out]
          refine hK.out _ _ (trivial) (fun hHeld2 => ?_)
          clear hK K hHeld
          have hHeld := hHeld2
          clear hHeld2
          try simp only [Act.put, List.setIfInBounds_toArray, List.set_cons_zero, List.set_cons_succ, List.getElem_toArray, List.getElem_cons_zero, List.getElem_cons_succ]
          try simp only [goInt]
          refine wpAnyH_take (i := 5) (v := ?_) rfl (by kernel_rfl) (by kernel_rfl) (by kernel_rfl) (fun _ _ _ h => h) (Or.inl ⟨by rfl, ?_⟩) (by assumption) ?_
          rotate_left
          · (intro w hSw; (try dsimp only at hSw); go_simp; try (with_reducible rfl))
          try simp only [Act.put, List.setIfInBounds_toArray, List.set_cons_zero, List.set_cons_succ, List.getElem_toArray, List.getElem_cons_zero, List.getElem_cons_succ]
          refine wpAnyH_ready (rs := [6]) (by kernel_rfl) (by simp) ?_
          refine AllReadyH.cons rfl (fun K hK => ?_) AllReadyH.nil
          go_simp
          refine hK.out _ _ (trivial) (fun hHeld2 => ?_)
          clear hK K hHeld
          have hHeld := hHeld2
          clear hHeld2
          try simp only [Act.put, List.setIfInBounds_toArray, List.set_cons_zero, List.set_cons_succ, List.getElem_toArray, List.getElem_cons_zero, List.getElem_cons_succ]
          refine wpAnyH_done (by kernel_rfl) ?_ _
          have hF := HFIN.out (f) (fun _ => rfl) (fun h => absurd h hmk)
          simp only [Nat.sub_zero] at hF ⊢
          exact ⟨hF.1.from _, hF.2.1, hF.2.2⟩
        · go_simp
          refine hK.out _ _ (trivial) (fun hHeld2 => ?_)
          clear hK K hHeld
          have hHeld := hHeld2
          clear hHeld2
          try simp only [Act.put, List.setIfInBounds_toArray, List.set_cons_zero, List.set_cons_succ, List.getElem_toArray, List.getElem_cons_zero, List.getElem_cons_succ]
          refine wpAnyH_ready (rs := [0, 4]) (by kernel_rfl) (by simp) ?_
          refine AllReadyH.cons rfl (fun K hK => ?_) (AllReadyH.cons rfl (fun K hK => ?_) AllReadyH.nil)
          · go_simp
            refine hK.out _ _ (trivial) (fun hHeld2 => ?_)
            clear hK K hHeld
            have hHeld := hHeld2
            clear hHeld2
            try simp only [Act.put, List.setIfInBounds_toArray, List.set_cons_zero, List.set_cons_succ, List.getElem_toArray, List.getElem_cons_zero, List.getElem_cons_succ]
            refine wpAnyH_ready (rs := [4]) (by kernel_rfl) (by simp) ?_
            refine AllReadyH.cons rfl (fun K hK => ?_) AllReadyH.nil
            rw [if_pos (by rfl)]
            refine wp_copy_cells (.tmp 15) (.tmp 17) 22 22 5 rfl B f m m ⟨b, o + off, none⟩ 0 0 (bCells (([] : List UInt8).take m)) rfl rfl Try.underlying22 size_u8 (by simp [bCells]) (fun i u hi => by simp [bCells] at hi) HTH.out (bCells_one _) ?_
            rw [HW2.out]
            refine hK.out _ _ (trivial) (fun hHeld2 => ?_)
            clear hK K hHeld
            have hHeld := hHeld2
            clear hHeld2
            try simp only [Act.put, List.setIfInBounds_toArray, List.set_cons_zero, List.set_cons_succ, List.getElem_toArray, List.getElem_cons_zero, List.getElem_cons_succ]
            try simp only [goInt]
            refine wpAnyH_take (i := 5) (v := ?_) rfl (by kernel_rfl) (by kernel_rfl) (by kernel_rfl) (fun _ _ _ h => h) (Or.inl ⟨by rfl, ?_⟩) (by assumption) ?_
            rotate_left
            · (intro w hSw; (try dsimp only at hSw); go_simp; try (with_reducible rfl))
            try simp only [Act.put, List.setIfInBounds_toArray, List.set_cons_zero, List.set_cons_succ, List.getElem_toArray, List.getElem_cons_zero, List.getElem_cons_succ]
            refine wpAnyH_ready (rs := [6]) (by kernel_rfl) (by simp) ?_
            refine AllReadyH.cons rfl (fun K hK => ?_) AllReadyH.nil
            go_simp
            refine hK.out _ _ (trivial) (fun hHeld2 => ?_)
            clear hK K hHeld
            have hHeld := hHeld2
            clear hHeld2
            try simp only [Act.put, List.setIfInBounds_toArray, List.set_cons_zero, List.set_cons_succ, List.getElem_toArray, List.getElem_cons_zero, List.getElem_cons_succ]
            refine wpAnyH_done (by kernel_rfl) ?_ _
            have hF := HFIN.out (f) (fun _ => rfl) (fun h => absurd h hmk)
            simp only [Nat.sub_zero] at hF ⊢
            exact ⟨hF.1.from _, hF.2.1, hF.2.2⟩
          · rw [if_pos (by rfl)]
            refine wp_copy_cells (.tmp 15) (.tmp 17) 22 22 5 rfl B f m m ⟨b, o + off, none⟩ 0 0 (bCells (([] : List UInt8).take m)) rfl rfl Try.underlying22 size_u8 (by simp [bCells]) (fun i u hi => by simp [bCells] at hi) HTH.out (bCells_one _) ?_
            rw [HW2.out]
            refine hK.out _ _ (trivial) (fun hHeld2 => ?_)
            clear hK K hHeld
            have hHeld := hHeld2
            clear hHeld2
            try simp only [Act.put, List.setIfInBounds_toArray, List.set_cons_zero, List.set_cons_succ, List.getElem_toArray, List.getElem_cons_zero, List.getElem_cons_succ]
            refine wpAnyH_ready (rs := [0]) (by kernel_rfl) (by simp) ?_
            refine AllReadyH.cons rfl (fun K hK => ?_) AllReadyH.nil
            go_simp
            refine hK.out _ _ (trivial) (fun hHeld2 => ?_)
            clear hK K hHeld
            have hHeld := hHeld2
            clear hHeld2
            try simp only [Act.put, List.setIfInBounds_toArray, List.set_cons_zero, List.set_cons_succ, List.getElem_toArray, List.getElem_cons_zero, List.getElem_cons_succ]
            try simp only [hb0]
            refine wpAnyH_take (i := 5) (v := ?_) rfl (by kernel_rfl) (by kernel_rfl) (by kernel_rfl) (fun _ _ _ h => h) (Or.inl ⟨by rfl, ?_⟩) (by assumption) ?_
            rotate_left
            · (intro w hSw; (try dsimp only at hSw); go_simp; try (with_reducible rfl))
            try simp only [Act.put, List.setIfInBounds_toArray, List.set_cons_zero, List.set_cons_succ, List.getElem_toArray, List.getElem_cons_zero, List.getElem_cons_succ]
            refine wpAnyH_ready (rs := [6]) (by kernel_rfl) (by simp) ?_
            refine AllReadyH.cons rfl (fun K hK => ?_) AllReadyH.nil
            go_simp
            refine hK.out _ _ (trivial) (fun hHeld2 => ?_)
            clear hK K hHeld
            have hHeld := hHeld2
            clear hHeld2
            try simp only [Act.put, List.setIfInBounds_toArray, List.set_cons_zero, List.set_cons_succ, List.getElem_toArray, List.getElem_cons_zero, List.getElem_cons_succ]
            refine wpAnyH_done (by kernel_rfl) ?_ _
            have hF := HFIN.out (f) (fun _ => rfl) (fun h => absurd h hmk)
            simp only [Nat.sub_zero] at hF ⊢
            exact ⟨hF.1.from _, hF.2.1, hF.2.2⟩
    · by_cases hmk : m = k
      · have hez : (e = 1) = False := eq_false he
        obtain rfl : m = k := hmk
        refine region_round (S := fun _ => True) (by kernel_rfl) (by rintro ⟨_, _, h⟩; exact h) (by kernel_rfl) (trivial) (fun hHeld => ?_)
        refine wpAnyH_take (i := 2) (v := ?_) rfl (by kernel_rfl) (by kernel_rfl) (by kernel_rfl) (fun _ _ _ h => h) (Or.inl ⟨by rfl, ?_⟩) (by assumption) ?_
        rotate_left
        · (intro w hSw; (try dsimp only at hSw); go_simp; try (with_reducible rfl))
        try simp only [Act.put, List.setIfInBounds_toArray, List.set_cons_zero, List.set_cons_succ, List.getElem_toArray, List.getElem_cons_zero, List.getElem_cons_succ]
        refine wpAnyH_take (i := 3) (v := ?_) rfl (by kernel_rfl) (by kernel_rfl) (by kernel_rfl) (fun _ _ _ h => h) (Or.inl ⟨by rfl, ?_⟩) (by assumption) ?_
        rotate_left
        · (intro w hSw; (try dsimp only at hSw); go_simp; try (with_reducible rfl))
        try simp only [Act.put, List.setIfInBounds_toArray, List.set_cons_zero, List.set_cons_succ, List.getElem_toArray, List.getElem_cons_zero, List.getElem_cons_succ]
        refine wpAnyH_ready (rs := [0, 1]) (by kernel_rfl) (by simp) ?_
        refine AllReadyH.cons rfl (fun K hK => ?_) (AllReadyH.cons rfl (fun K hK => ?_) AllReadyH.nil)
        · go_simp
          refine hK.out _ _ (trivial) (fun hHeld2 => ?_)
          clear hK K hHeld
          have hHeld := hHeld2
          clear hHeld2
          try simp only [Act.put, List.setIfInBounds_toArray, List.set_cons_zero, List.set_cons_succ, List.getElem_toArray, List.getElem_cons_zero, List.getElem_cons_succ]
          refine wpAnyH_ready (rs := [1]) (by kernel_rfl) (by simp) ?_
          refine AllReadyH.cons rfl (fun K hK => ?_) AllReadyH.nil
          go_simp
          refine hK.out _ _ (trivial) (fun hHeld2 => ?_)
          clear hK K hHeld
          have hHeld := hHeld2
          clear hHeld2
          try simp only [Act.put, List.setIfInBounds_toArray, List.set_cons_zero, List.set_cons_succ, List.getElem_toArray, List.getElem_cons_zero, List.getElem_cons_succ]
          refine wpAnyH_ready (rs := [4]) (by kernel_rfl) (by simp) ?_
          refine AllReadyH.cons rfl (fun K hK => ?_) AllReadyH.nil
          rw [if_pos (by rfl)]
          refine wp_copy_cells (.tmp 15) (.tmp 17) 22 22 5 rfl B f m m ⟨b, o + off + 1, none⟩ (e - 1) (e - 1) (bCells (pc.take m)) rfl rfl Try.underlying22 size_u8 HKB.out (fun i u hi => by have h := HSRC.out i u hi; rw [Addr.add_mid] at h ⊢; rw [Nat.add_assoc o off 1]; exact h) HTH.out (bCells_one _) ?_
          rw [HW2.out]
          refine hK.out _ _ (trivial) (fun hHeld2 => ?_)
          clear hK K hHeld
          have hHeld := hHeld2
          clear hHeld2
          try simp only [Act.put, List.setIfInBounds_toArray, List.set_cons_zero, List.set_cons_succ, List.getElem_toArray, List.getElem_cons_zero, List.getElem_cons_succ]
          try simp only [goInt, hkI]
          refine wpAnyH_take (i := 5) (v := ?_) rfl (by kernel_rfl) (by kernel_rfl) (by kernel_rfl) (fun _ _ _ h => h) (Or.inl ⟨by rfl, ?_⟩) (by assumption) ?_
          rotate_left
          · (intro w hSw; (try dsimp only at hSw); go_simp; try (with_reducible rfl))
          try simp only [Act.put, List.setIfInBounds_toArray, List.set_cons_zero, List.set_cons_succ, List.getElem_toArray, List.getElem_cons_zero, List.getElem_cons_succ]
          refine wpAnyH_ready (rs := [6]) (by kernel_rfl) (by simp) ?_
          refine AllReadyH.cons rfl (fun K hK => ?_) AllReadyH.nil
          go_simp
          refine hK.out _ _ (trivial) (fun hHeld2 => ?_)
          clear hK K hHeld
          have hHeld := hHeld2
          clear hHeld2
          try simp only [Act.put, List.setIfInBounds_toArray, List.set_cons_zero, List.set_cons_succ, List.getElem_toArray, List.getElem_cons_zero, List.getElem_cons_succ]
          refine wpAnyH_done (by kernel_rfl) ?_ _
          have hF := HFIN.out (f) (fun h => absurd rfl h) (fun _ => rfl)
          simp only [Nat.sub_self] at hF ⊢
          exact ⟨hF.1.from _, hF.2.1, hF.2.2⟩
        · go_simp
          refine hK.out _ _ (trivial) (fun hHeld2 => ?_)
          clear hK K hHeld
          have hHeld := hHeld2
          clear hHeld2
          try simp only [Act.put, List.setIfInBounds_toArray, List.set_cons_zero, List.set_cons_succ, List.getElem_toArray, List.getElem_cons_zero, List.getElem_cons_succ]
          refine wpAnyH_ready (rs := [0, 4]) (by kernel_rfl) (by simp) ?_
          refine AllReadyH.cons rfl (fun K hK => ?_) (AllReadyH.cons rfl (fun K hK => ?_) AllReadyH.nil)
          · go_simp
            refine hK.out _ _ (trivial) (fun hHeld2 => ?_)
            clear hK K hHeld
            have hHeld := hHeld2
            clear hHeld2
            try simp only [Act.put, List.setIfInBounds_toArray, List.set_cons_zero, List.set_cons_succ, List.getElem_toArray, List.getElem_cons_zero, List.getElem_cons_succ]
            refine wpAnyH_ready (rs := [4]) (by kernel_rfl) (by simp) ?_
            refine AllReadyH.cons rfl (fun K hK => ?_) AllReadyH.nil
            rw [if_pos (by rfl)]
            refine wp_copy_cells (.tmp 15) (.tmp 17) 22 22 5 rfl B f m m ⟨b, o + off + 1, none⟩ (e - 1) (e - 1) (bCells (pc.take m)) rfl rfl Try.underlying22 size_u8 HKB.out (fun i u hi => by have h := HSRC.out i u hi; rw [Addr.add_mid] at h ⊢; rw [Nat.add_assoc o off 1]; exact h) HTH.out (bCells_one _) ?_
            rw [HW2.out]
            refine hK.out _ _ (trivial) (fun hHeld2 => ?_)
            clear hK K hHeld
            have hHeld := hHeld2
            clear hHeld2
            try simp only [Act.put, List.setIfInBounds_toArray, List.set_cons_zero, List.set_cons_succ, List.getElem_toArray, List.getElem_cons_zero, List.getElem_cons_succ]
            try simp only [goInt, hkI]
            refine wpAnyH_take (i := 5) (v := ?_) rfl (by kernel_rfl) (by kernel_rfl) (by kernel_rfl) (fun _ _ _ h => h) (Or.inl ⟨by rfl, ?_⟩) (by assumption) ?_
            rotate_left
            · (intro w hSw; (try dsimp only at hSw); go_simp; try (with_reducible rfl))
            try simp only [Act.put, List.setIfInBounds_toArray, List.set_cons_zero, List.set_cons_succ, List.getElem_toArray, List.getElem_cons_zero, List.getElem_cons_succ]
            refine wpAnyH_ready (rs := [6]) (by kernel_rfl) (by simp) ?_
            refine AllReadyH.cons rfl (fun K hK => ?_) AllReadyH.nil
            go_simp
            refine hK.out _ _ (trivial) (fun hHeld2 => ?_)
            clear hK K hHeld
            have hHeld := hHeld2
            clear hHeld2
            try simp only [Act.put, List.setIfInBounds_toArray, List.set_cons_zero, List.set_cons_succ, List.getElem_toArray, List.getElem_cons_zero, List.getElem_cons_succ]
            refine wpAnyH_done (by kernel_rfl) ?_ _
            have hF := HFIN.out (f) (fun h => absurd rfl h) (fun _ => rfl)
            simp only [Nat.sub_self] at hF ⊢
            exact ⟨hF.1.from _, hF.2.1, hF.2.2⟩
          · rw [if_pos (by rfl)]
            refine wp_copy_cells (.tmp 15) (.tmp 17) 22 22 5 rfl B f m m ⟨b, o + off + 1, none⟩ (e - 1) (e - 1) (bCells (pc.take m)) rfl rfl Try.underlying22 size_u8 HKB.out (fun i u hi => by have h := HSRC.out i u hi; rw [Addr.add_mid] at h ⊢; rw [Nat.add_assoc o off 1]; exact h) HTH.out (bCells_one _) ?_
            rw [HW2.out]
            refine hK.out _ _ (trivial) (fun hHeld2 => ?_)
            clear hK K hHeld
            have hHeld := hHeld2
            clear hHeld2
            try simp only [Act.put, List.setIfInBounds_toArray, List.set_cons_zero, List.set_cons_succ, List.getElem_toArray, List.getElem_cons_zero, List.getElem_cons_succ]
            refine wpAnyH_ready (rs := [0]) (by kernel_rfl) (by simp) ?_
            refine AllReadyH.cons rfl (fun K hK => ?_) AllReadyH.nil
            go_simp
            refine hK.out _ _ (trivial) (fun hHeld2 => ?_)
            clear hK K hHeld
            have hHeld := hHeld2
            clear hHeld2
            try simp only [Act.put, List.setIfInBounds_toArray, List.set_cons_zero, List.set_cons_succ, List.getElem_toArray, List.getElem_cons_zero, List.getElem_cons_succ]
            try simp only [goInt, hkI]
            refine wpAnyH_take (i := 5) (v := ?_) rfl (by kernel_rfl) (by kernel_rfl) (by kernel_rfl) (fun _ _ _ h => h) (Or.inl ⟨by rfl, ?_⟩) (by assumption) ?_
            rotate_left
            · (intro w hSw; (try dsimp only at hSw); go_simp; try (with_reducible rfl))
            try simp only [Act.put, List.setIfInBounds_toArray, List.set_cons_zero, List.set_cons_succ, List.getElem_toArray, List.getElem_cons_zero, List.getElem_cons_succ]
            refine wpAnyH_ready (rs := [6]) (by kernel_rfl) (by simp) ?_
            refine AllReadyH.cons rfl (fun K hK => ?_) AllReadyH.nil
            go_simp
            refine hK.out _ _ (trivial) (fun hHeld2 => ?_)
            clear hK K hHeld
            have hHeld := hHeld2
            clear hHeld2
            try simp only [Act.put, List.setIfInBounds_toArray, List.set_cons_zero, List.set_cons_succ, List.getElem_toArray, List.getElem_cons_zero, List.getElem_cons_succ]
            refine wpAnyH_done (by kernel_rfl) ?_ _
            have hF := HFIN.out (f) (fun h => absurd rfl h) (fun _ => rfl)
            simp only [Nat.sub_self] at hF ⊢
            exact ⟨hF.1.from _, hF.2.1, hF.2.2⟩
      · have hez : (e = 1) = False := eq_false he
        have hmz : (m = k) = False := eq_false hmk
        refine region_round (S := fun _ => True) (by kernel_rfl) (by rintro ⟨_, _, h⟩; exact h) (by kernel_rfl) (trivial) (fun hHeld => ?_)
        refine wpAnyH_take (i := 2) (v := ?_) rfl (by kernel_rfl) (by kernel_rfl) (by kernel_rfl) (fun _ _ _ h => h) (Or.inl ⟨by rfl, ?_⟩) (by assumption) ?_
        rotate_left
        · (intro w hSw; (try dsimp only at hSw); go_simp; try (with_reducible rfl))
        try simp only [Act.put, List.setIfInBounds_toArray, List.set_cons_zero, List.set_cons_succ, List.getElem_toArray, List.getElem_cons_zero, List.getElem_cons_succ]
        refine wpAnyH_take (i := 3) (v := ?_) rfl (by kernel_rfl) (by kernel_rfl) (by kernel_rfl) (fun _ _ _ h => h) (Or.inl ⟨by rfl, ?_⟩) (by assumption) ?_
        rotate_left
        · (intro w hSw; (try dsimp only at hSw); go_simp; try (with_reducible rfl))
        try simp only [Act.put, List.setIfInBounds_toArray, List.set_cons_zero, List.set_cons_succ, List.getElem_toArray, List.getElem_cons_zero, List.getElem_cons_succ]
        refine wpAnyH_ready (rs := [0, 1]) (by kernel_rfl) (by simp) ?_
        refine AllReadyH.cons rfl (fun K hK => ?_) (AllReadyH.cons rfl (fun K hK => ?_) AllReadyH.nil)
        · go_simp
          refine hK.out _ _ (trivial) (fun hHeld2 => ?_)
          clear hK K hHeld
          have hHeld := hHeld2
          clear hHeld2
          try simp only [Act.put, List.setIfInBounds_toArray, List.set_cons_zero, List.set_cons_succ, List.getElem_toArray, List.getElem_cons_zero, List.getElem_cons_succ]
          refine wpAnyH_ready (rs := [1]) (by kernel_rfl) (by simp) ?_
          refine AllReadyH.cons rfl (fun K hK => ?_) AllReadyH.nil
          go_simp
          refine hK.out _ _ (trivial) (fun hHeld2 => ?_)
          clear hK K hHeld
          have hHeld := hHeld2
          clear hHeld2
          try simp only [Act.put, List.setIfInBounds_toArray, List.set_cons_zero, List.set_cons_succ, List.getElem_toArray, List.getElem_cons_zero, List.getElem_cons_succ]
          refine wpAnyH_ready (rs := [4]) (by kernel_rfl) (by simp) ?_
          refine AllReadyH.cons rfl (fun K hK => ?_) AllReadyH.nil
          rw [if_pos (by rfl)]
          refine wp_copy_cells (.tmp 15) (.tmp 17) 22 22 5 rfl B f m m ⟨b, o + off + 1, none⟩ (e - 1) (e - 1) (bCells (pc.take m)) rfl rfl Try.underlying22 size_u8 HKB.out (fun i u hi => by have h := HSRC.out i u hi; rw [Addr.add_mid] at h ⊢; rw [Nat.add_assoc o off 1]; exact h) HTH.out (bCells_one _) ?_
          rw [HW2.out]
          refine hK.out _ _ (trivial) (fun hHeld2 => ?_)
          clear hK K hHeld
          have hHeld := hHeld2
          clear hHeld2
          try simp only [Act.put, List.setIfInBounds_toArray, List.set_cons_zero, List.set_cons_succ, List.getElem_toArray, List.getElem_cons_zero, List.getElem_cons_succ]
          try simp only [goInt, hkI]
          refine wpAnyH_take (i := 5) (v := ?_) rfl (by kernel_rfl) (by kernel_rfl) (by kernel_rfl) (fun _ _ _ h => h) (Or.inl ⟨by rfl, ?_⟩) (by assumption) ?_
          rotate_left
          · (intro w hSw; (try dsimp only at hSw); go_simp; try (with_reducible rfl))
          try simp only [Act.put, List.setIfInBounds_toArray, List.set_cons_zero, List.set_cons_succ, List.getElem_toArray, List.getElem_cons_zero, List.getElem_cons_succ]
          refine wpAnyH_ready (rs := [6]) (by kernel_rfl) (by simp) ?_
          refine AllReadyH.cons rfl (fun K hK => ?_) AllReadyH.nil
          go_simp
          refine hK.out _ _ (trivial) (fun hHeld2 => ?_)
          clear hK K hHeld
          have hHeld := hHeld2
          clear hHeld2
          try simp only [Act.put, List.setIfInBounds_toArray, List.set_cons_zero, List.set_cons_succ, List.getElem_toArray, List.getElem_cons_zero, List.getElem_cons_succ]
          refine wpAnyH_done (by kernel_rfl) ?_ _
          have hF := HFIN.out (f + k) (fun _ => rfl) (fun h => absurd h hmk)
          exact ⟨hF.1.from _, hF.2.1, hF.2.2⟩
        · go_simp
          refine hK.out _ _ (trivial) (fun hHeld2 => ?_)
          clear hK K hHeld
          have hHeld := hHeld2
          clear hHeld2
          try simp only [Act.put, List.setIfInBounds_toArray, List.set_cons_zero, List.set_cons_succ, List.getElem_toArray, List.getElem_cons_zero, List.getElem_cons_succ]
          refine wpAnyH_ready (rs := [0, 4]) (by kernel_rfl) (by simp) ?_
          refine AllReadyH.cons rfl (fun K hK => ?_) (AllReadyH.cons rfl (fun K hK => ?_) AllReadyH.nil)
          · go_simp
            refine hK.out _ _ (trivial) (fun hHeld2 => ?_)
            clear hK K hHeld
            have hHeld := hHeld2
            clear hHeld2
            try simp only [Act.put, List.setIfInBounds_toArray, List.set_cons_zero, List.set_cons_succ, List.getElem_toArray, List.getElem_cons_zero, List.getElem_cons_succ]
            refine wpAnyH_ready (rs := [4]) (by kernel_rfl) (by simp) ?_
            refine AllReadyH.cons rfl (fun K hK => ?_) AllReadyH.nil
            rw [if_pos (by rfl)]
            refine wp_copy_cells (.tmp 15) (.tmp 17) 22 22 5 rfl B f m m ⟨b, o + off + 1, none⟩ (e - 1) (e - 1) (bCells (pc.take m)) rfl rfl Try.underlying22 size_u8 HKB.out (fun i u hi => by have h := HSRC.out i u hi; rw [Addr.add_mid] at h ⊢; rw [Nat.add_assoc o off 1]; exact h) HTH.out (bCells_one _) ?_
            rw [HW2.out]
            refine hK.out _ _ (trivial) (fun hHeld2 => ?_)
            clear hK K hHeld
            have hHeld := hHeld2
            clear hHeld2
            try simp only [Act.put, List.setIfInBounds_toArray, List.set_cons_zero, List.set_cons_succ, List.getElem_toArray, List.getElem_cons_zero, List.getElem_cons_succ]
            try simp only [goInt, hkI]
            refine wpAnyH_take (i := 5) (v := ?_) rfl (by kernel_rfl) (by kernel_rfl) (by kernel_rfl) (fun _ _ _ h => h) (Or.inl ⟨by rfl, ?_⟩) (by assumption) ?_
            rotate_left
            · (intro w hSw; (try dsimp only at hSw); go_simp; try (with_reducible rfl))
            try simp only [Act.put, List.setIfInBounds_toArray, List.set_cons_zero, List.set_cons_succ, List.getElem_toArray, List.getElem_cons_zero, List.getElem_cons_succ]
            refine wpAnyH_ready (rs := [6]) (by kernel_rfl) (by simp) ?_
            refine AllReadyH.cons rfl (fun K hK => ?_) AllReadyH.nil
            go_simp
            refine hK.out _ _ (trivial) (fun hHeld2 => ?_)
            clear hK K hHeld
            have hHeld := hHeld2
            clear hHeld2
            try simp only [Act.put, List.setIfInBounds_toArray, List.set_cons_zero, List.set_cons_succ, List.getElem_toArray, List.getElem_cons_zero, List.getElem_cons_succ]
            refine wpAnyH_done (by kernel_rfl) ?_ _
            have hF := HFIN.out (f + k) (fun _ => rfl) (fun h => absurd h hmk)
            exact ⟨hF.1.from _, hF.2.1, hF.2.2⟩
          · rw [if_pos (by rfl)]
            refine wp_copy_cells (.tmp 15) (.tmp 17) 22 22 5 rfl B f m m ⟨b, o + off + 1, none⟩ (e - 1) (e - 1) (bCells (pc.take m)) rfl rfl Try.underlying22 size_u8 HKB.out (fun i u hi => by have h := HSRC.out i u hi; rw [Addr.add_mid] at h ⊢; rw [Nat.add_assoc o off 1]; exact h) HTH.out (bCells_one _) ?_
            rw [HW2.out]
            refine hK.out _ _ (trivial) (fun hHeld2 => ?_)
            clear hK K hHeld
            have hHeld := hHeld2
            clear hHeld2
            try simp only [Act.put, List.setIfInBounds_toArray, List.set_cons_zero, List.set_cons_succ, List.getElem_toArray, List.getElem_cons_zero, List.getElem_cons_succ]
            refine wpAnyH_ready (rs := [0]) (by kernel_rfl) (by simp) ?_
            refine AllReadyH.cons rfl (fun K hK => ?_) AllReadyH.nil
            go_simp
            refine hK.out _ _ (trivial) (fun hHeld2 => ?_)
            clear hK K hHeld
            have hHeld := hHeld2
            clear hHeld2
            try simp only [Act.put, List.setIfInBounds_toArray, List.set_cons_zero, List.set_cons_succ, List.getElem_toArray, List.getElem_cons_zero, List.getElem_cons_succ]
            try simp only [goInt, hkI]
            refine wpAnyH_take (i := 5) (v := ?_) rfl (by kernel_rfl) (by kernel_rfl) (by kernel_rfl) (fun _ _ _ h => h) (Or.inl ⟨by rfl, ?_⟩) (by assumption) ?_
            rotate_left
            · (intro w hSw; (try dsimp only at hSw); go_simp; try (with_reducible rfl))
            try simp only [Act.put, List.setIfInBounds_toArray, List.set_cons_zero, List.set_cons_succ, List.getElem_toArray, List.getElem_cons_zero, List.getElem_cons_succ]
            refine wpAnyH_ready (rs := [6]) (by kernel_rfl) (by simp) ?_
            refine AllReadyH.cons rfl (fun K hK => ?_) AllReadyH.nil
            go_simp
            refine hK.out _ _ (trivial) (fun hHeld2 => ?_)
            clear hK K hHeld
            have hHeld := hHeld2
            clear hHeld2
            try simp only [Act.put, List.setIfInBounds_toArray, List.set_cons_zero, List.set_cons_succ, List.getElem_toArray, List.getElem_cons_zero, List.getElem_cons_succ]
            refine wpAnyH_done (by kernel_rfl) ?_ _
            have hF := HFIN.out (f + k) (fun _ => rfl) (fun h => absurd h hmk)
            exact ⟨hF.1.from _, hF.2.1, hF.2.2⟩
  case done =>
    rintro Dd zs W hD rfl HI hKd
    have hrow := HI.row
    rw [← HEND.out, Nat.sub_eq_zero_of_le HENDL.out, List.replicate_zero, List.append_nil] at hrow
    have HRW := Lib.hid hrow
    have HCH := Lib.hid HI.chg
    have HKD := Lib.hid hKd
    clear HI hrow hKd
    gi_wp2
    refine ⟨by simp, .inl ⟨_, _, rfl, run_takeDeferred HKD.out, ?_⟩⟩
    have hDd := HZ5.out
    have hc1 : Chg (fun k => k = Dd) W (W.putObj Dd (.deferred none)) := (Chg.grown (grownBy_putObj' _ Dd _)).weaken (fun k _ e => by cases e; rfl)
    refine ⟨_, results_tmp rfl _ _ _, by rw [HBE.out]; rfl, by rw [HBE.out]; exact hc1.box HRW.out (by omega), ?_⟩
    exact hc1.on (HCH.out.on (show Below w.heap.size w w5 by rw [HBE.out]; exact HB5.out) (by rw [HBE.out]; omega) (fun k hk => by rw [HBE.out]; omega)) (by have := HCH.out.size; rw [HBE.out]; omega) (fun k hk => by rw [HBE.out]; omega)
  case stop =>
    rintro Dd cc pre W _ _ h _
    exact h.elim
end Go.Proofs.Ytgcifhhbhoafcaa
