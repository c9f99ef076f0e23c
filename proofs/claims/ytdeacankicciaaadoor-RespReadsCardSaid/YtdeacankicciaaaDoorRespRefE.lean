/-
  The reference's Read, of any bytes from any place on.
-/
import Derived.Test.YtdeacankicciaaaDoorRespRefD2
import Derived.Test.YtdeacankicciaaaDoorRespRefD3
import Derived.Test.YtdeacankicciaaaDoorRespRefD4
namespace Go.Proofs.YtdeacankicciaaaDoor
open Go.RowKit Rp

/-! ### What is left is an end of what was there -/
theorem cut_suf {l t r : List UInt8} (h : cut l = some (t, r)) : r <:+ l := by
  unfold cut at h
  split at h
  · cases h; exact List.drop_suffix _ _
  · cases h
theorem many_suf (f : List UInt8 → Option (Rep × List UInt8)) (hf : ∀ b r s, f b = some (r, s) → s <:+ b) : ∀ (n : Nat) (b : List UInt8) (xs : List Rep) (s : List UInt8), many f n b = some (xs, s) → s <:+ b
  | 0, b, xs, s, h => by
    simp only [many, Option.some.injEq, Prod.mk.injEq] at h
    rw [h.2]; exact List.suffix_rfl
  | n + 1, b, xs, s, h => by
    rw [many] at h
    cases h1 : f b with
    | none => rw [h1] at h; cases h
    | some y =>
      obtain ⟨x, b1⟩ := y
      rw [h1] at h
      simp only at h
      cases h2 : many f n b1 with
      | none => rw [h2] at h; cases h
      | some z =>
        obtain ⟨zs, b2⟩ := z
        rw [h2] at h
        simp only [Option.some.injEq, Prod.mk.injEq] at h
        rw [← h.2]
        exact (many_suf f hf n b1 zs b2 h2).trans (hf _ _ _ h1)
theorem bulk_suf {t b : List UInt8} {r : Rep} {s : List UInt8} (h : bulkOf t b = some (r, s)) : s <:+ b := by
  unfold bulkOf at h
  repeat' split at h
  all_goals first
    | (cases h; done)
    | (simp only [Option.some.injEq, Prod.mk.injEq] at h; obtain ⟨_, rfl⟩ := h; first | exact List.suffix_rfl | exact List.drop_suffix _ _)
theorem kind_suf {ar : List UInt8 → List UInt8 → Option (Rep × List UInt8)} (ha : ∀ t b r s, ar t b = some (r, s) → s <:+ b) {x : UInt8} {t b : List UInt8} {r : Rep} {s : List UInt8} (h : kindOf ar x t b = some (r, s)) : s <:+ b := by
  unfold kindOf at h
  repeat' split at h
  all_goals first
    | exact bulk_suf h
    | exact ha _ _ _ _ h
    | (cases h; done)
    | (simp only [Option.some.injEq, Prod.mk.injEq] at h; obtain ⟨_, rfl⟩ := h; exact List.suffix_rfl)
theorem rd_suf : ∀ (d : Nat) (b : List UInt8) (r : Rep) (s : List UInt8), rd d b = some (r, s) → s <:+ b
  | 0, b, r, s, h => by
    rw [rd] at h
    split at h
    · cases h
    · cases h
    · rename_i hc
      exact (kind_suf (fun _ _ _ _ h => by cases h) h).trans (cut_suf hc)
  | d + 1, b, r, s, h => by
    rw [rd] at h
    split at h
    · cases h
    · cases h
    · rename_i hc
      exact (kind_suf (fun t b r s h => by
        unfold arrayOf at h
        repeat' split at h
        all_goals first
          | (cases h; done)
          | (rename_i hm; simp only [Option.some.injEq, Prod.mk.injEq] at h; obtain ⟨_, rfl⟩ := h; exact many_suf _ (rd_suf d) _ _ _ _ hm)) h).trans (cut_suf hc)
theorem rd_place {d : Nat} {l l2 : List UInt8} {nx : Nat} {x : Rep} (h : rd d (l.drop nx) = some (x, l2)) : l2 = l.drop (l.length - l2.length) ∧ l2.length < (l.drop nx).length :=
  ⟨List.suffix_iff_eq_drop.1 ((rd_suf d _ _ _ h).trans (List.drop_suffix _ _)), rd_len d _ _ _ h⟩
/-- So many replies as one array. -/
def arrN (d N : Nat) (r : List UInt8) : Option (Rep × List UInt8) := match many (rd d) N r with | none => none | some (ys, s) => some (.mk 5 [] 0 ys, s)
theorem crlf_cons (a b : UInt8) (t : List UInt8) : crlf (a :: b :: t) = (13 == a && 10 == b) := by simp [crlf, List.isPrefixOf]
theorem crlf_at {r : List UInt8} {N : Nat} (h : N + 1 < r.length) (h13 : r[N] = 13) (h10 : r[N + 1] = 10) : crlf (r.drop N) = true := by
  rw [List.drop_eq_getElem_cons (by omega : N < r.length), List.drop_eq_getElem_cons h, h13, h10, crlf_cons]
  rfl
theorem crlf_of {r : List UInt8} {N : Nat} (h : N + 1 < r.length) (hc : crlf (r.drop N) = true) : r[N] = 13 ∧ r[N + 1] = 10 := by
  rw [List.drop_eq_getElem_cons (by omega : N < r.length), List.drop_eq_getElem_cons h, crlf_cons, Bool.and_eq_true, beq_iff_eq, beq_iff_eq] at hc
  exact ⟨hc.1.symm, hc.2.symm⟩
/-- Nothing is asked of a slice that stands for none. -/
theorem sub_free (l r : List UInt8) : Sub none 1 l none 1 r := by
  intro w0 h0
  rcases h0 with ⟨_, _, h⟩ | ⟨b, o, h, _⟩
  · cases h
  · cases h

set_option maxRecDepth 20000 in
set_option maxHeartbeats 8000000 in
theorem rr_42_loop (l : List UInt8) (hl : l.length ≤ 1000000000) (a : Nat) (ha : a ≤ l.length) (d : Nat) (hd4 : d < 100) (hT : RefAt d) (t r : List UInt8) (hln : lineR (l.drop a) = some ((42 : UInt8) :: t, r)) (N : Nat) (hp : parseL t = some (N : Int)) (hN : N ≤ l.length)  (b o c : Nat) (w : World) (h : Rest w (some ⟨b, o, none⟩) c l) :
    Calls Tryd.prog 11 #[.slice (some ⟨b, o, none⟩) l.length c, .int .i64 a, .int .i64 ((d + 1 : Nat) : Int)] w fun e w' => RefV w.heap.size w' l.length e (arrN d N r) ∧ Below w.heap.size w w' := by
  have htl : t.length ≤ 281474976710656 := by
    have := lineR_len hln
    rw [List.length_drop] at this
    omega
  have HPR := Lib.hid (fun W => refparse_any t htl W)
  rw [hp] at HPR
  have HLN := Lib.hid hln
  clear hln hp htl
  have hd0 : decide ((N : Int) < 0) = false := decide_eq_false (by omega)
  have hd1 : decide (l.length < N) = false := decide_eq_false (by omega)
  have hdz : (((d + 1 : Nat) : Int) == 0) = false := beq_eq_false_iff_ne.2 (by omega)
  have hsub : wrap64 (((d + 1 : Nat) : Int) - 1) = (d : Int) := by unfold wrap64; omega
  have HTT := Lib.hid hT
  obtain ⟨D, hD⟩ : ∃ D : Int, ((d + 1 : Nat) : Int) = D := ⟨_, rfl⟩
  rw [hD] at hdz hsub ⊢
  clear hD hT
  obtain ⟨i0, hi, hz0, hz1, hz2⟩ := info_parts info_rep
  have H3 := Lib.hid (rest_at h)
  have hmx := h.len
  have hcap := h.bin.cap
  have hcm := h.bin.max
  have HH := Lib.hid h
  unfold maxLen at hcm
  clear h
  go_enter Tryd.func11, Tryd.ntmps11
  have hB0 : Below w.heap.size w (w.alloc (.cells #[.int .i64 0, .string ⟨#[]⟩, .int .i64 0, .slice none 0 0] 26)) := bA (Below.refl _ _) _
  have HBX0 := Lib.hid (heap_alloc_new w (.cells #[.int .i64 0, .string ⟨#[]⟩, .int .i64 0, .slice none 0 0] 26))
  go_wp2_with fail
  generalize w.alloc (.cells #[.int .i64 0, .string ⟨#[]⟩, .int .i64 0, .slice none 0 0] 26 (0, 0)) = wB at *
  go_loop [8] (fun s8 => ∃ e : Nat, a ≤ e ∧ e ≤ l.length ∧ s8 = .int .i64 e ∧ Hid (Scan l a e)) (fun s8 => l.length - (intOf s8).toNat)
  case atStart => exact ⟨a, Nat.le_refl _, ha, rfl, Lib.hid (scan_start l a)⟩
  case round =>
    obtain ⟨e, hae, hel, rfl, HS⟩ := hrel
    by_cases hlt : e + 1 < l.length
    · obtain ⟨x0, hx0⟩ : ∃ x0, l[e] = x0 := ⟨_, rfl⟩
      obtain ⟨x1, hx1⟩ : ∃ x1, l[e + 1] = x1 := ⟨_, rfl⟩
      have k0 := cell_below hB0 (H3.out e (by omega))
      have k1 := cell_below hB0 (H3.out (e + 1) hlt)
      rw [hx0] at k0
      rw [hx1] at k1
      have hdl : decide ((e : Int) + 1 < (l.length : Int)) = true := decide_eq_true (by omega)
      by_cases g13 : x0 = 13
      · by_cases g10 : x1 = 10
        · subst g13 g10
          have HX0 := Lib.hid hx0
          have HX1 := Lib.hid hx1
          clear hx0 hx1
          obtain ⟨he, hu, hr, hlen⟩ := line_where HS.out hae hlt HX0.out HX1.out HLN.out
          rw [List.length_cons] at he hu hr hlen
          have hge : decide ((l.length : Int) ≤ (e : Int) + 1) = false := decide_eq_false (by omega)
          have hea : ((e : Int) == (a : Int)) = false := beq_eq_false_iff_ne.2 (by omega)
          have hxa : l[a]'(by omega) = 42 := by
            have := congrArg (fun y => y[0]?) hu
            simp only [List.getElem?_cons_zero, List.getElem?_take_of_lt (show 0 < t.length + 1 by omega), List.getElem?_drop, Nat.add_zero] at this
            rw [List.getElem?_eq_getElem (by omega)] at this
            simpa using this.symm
          have hta : t = (l.drop (a + 1)).take (e - (a + 1)) := by
            have h1 : (l.drop a) = 42 :: l.drop (a + 1) := by rw [List.drop_eq_getElem_cons (by omega), hxa]
            rw [h1, List.take_succ_cons] at hu
            rw [show e - (a + 1) = t.length by omega]
            exact (List.cons.inj hu).2
          have hca : w.cell? ⟨b, o + a, none⟩ = some (.int .u8 42) := by rw [H3.out a (by omega), hxa]; rfl
          have HTL := Lib.hid (show t.length = e - (a + 1) by omega)
          have HEA := Lib.hid he
          have HR := Lib.hid hr
          have HLEN := Lib.hid hlen
          have hrl : e + 2 + r.length = l.length := by omega
          have HRL := Lib.hid hrl
          have HCV : Hid (∀ W, Below w.heap.size w W → (convert 22 9 (.slice (some ⟨b, o + (a + 1), none⟩) (e - (a + 1)) (c - (a + 1)))).run Tryd.prog W = .ok (.string (bs t)) W) := Lib.hid fun W hW => by
            rw [hta]
            refine convert_rest (l := l.drop (a + 1)) _ _ (by rw [List.length_drop]; omega) (fun j hj => ?_)
            rw [List.length_drop] at hj
            rw [List.getElem_drop, Nat.add_assoc]
            exact (hW.cell (p := ⟨b, o + (a + 1 + j), none⟩) (World.block_lt_of_cell? w _ (H3.out (a + 1 + j) (by omega)))).trans (H3.out (a + 1 + j) (by omega))
          have hck : (c = a + 1) = False := eq_false (by omega)
          have hle1 : a + 1 ≤ e := by omega
          have hec : e ≤ c := by omega
          have hlen9 : e + 2 ≤ l.length := by omega
          clear hxa hta hu hr hlen he hrl
          have hcv0 := HCV.out _ hB0
          go_wp2_with fail
          refine (HPR.out _).mono ?_
          rintro e9 w1 ⟨rfl, hb1⟩
          have hB1 : Below w.heap.size w w1 := bT hB0 hb1
          have HBX := Lib.hid (show w1.heap[w.heap.size]? = some (.cells #[.int .i64 0, .string ⟨#[]⟩, .int .i64 0, .slice none 0 0] 26 (0, 0)) from (hb1.block _ (Array.getElem?_eq_some_iff.1 HBX0.out).1).trans HBX0.out)
          have hcw := cell_below hB1 hca
          clear hcv0 hca
          obtain ⟨B, hBd⟩ : ∃ B : Nat, w1.heap.size = B := ⟨_, rfl⟩
          have hwB : w.heap.size < B := by rw [← hBd]; exact (Array.getElem?_eq_some_iff.1 HBX.out).1
          have hrd : r = l.drop (e + 2) := by rw [HR.out]; congr 1; have := HEA.out; omega
          have HG0 : Hid (Grow d N r none 1 w B 0 [] r none 1 none 0 (w1.alloc (.cells #[.int .i64 5, .string ⟨#[]⟩, .int .i64 0, .slice none 0 0] 26))) := Lib.hid ⟨rfl, sub_free _ _, joinR_nil' _, by omega, hB1.alloc hB1.size _, ((bA (Below.refl _ w1) _).block _ (Array.getElem?_eq_some_iff.1 HBX.out).1).trans HBX.out, by rw [← hBd]; exact heap_alloc_new w1 _, World.ownsRow_nil _ _ _ _, fun x hx => by cases hx⟩
          have HRD0 := Lib.hid hrd
          clear hrd
          go_wp2_with fail
          clear hcw
          go_loopw [10, 15] (fun s10 s15 wr => ∃ (j nx : Nat) (xs : List Held) (a' : Option Addr) (cap : Nat), j ≤ N ∧ nx ≤ l.length ∧ s15 = .int .i64 j ∧ s10 = .int .i64 nx ∧ Hid (Grow d N r none 1 w B j xs (l.drop nx) none 1 a' cap wr)) (fun _ s15 _ => N - (intOf s15).toNat)
          case atStart => exact ⟨0, e + 2, [], none, 0, Nat.zero_le _, by omega, rfl, by go_num, by rw [← HRD0.out]; exact HG0⟩
          case round =>
            obtain ⟨j, nx, xs, a', cap, hj, hnx, rfl, rfl, HG⟩ := hrel
            by_cases hjl : j < N
            · have hdj : decide ((j : Int) < (N : Int)) = true := decide_eq_true (by omega)
              have HTK := Lib.hid (HTT.out l hl nx hnx (some ⟨b, o, none⟩) c wr (HH.out.below HG.out.below))
              go_wp2_with fail
              refine HTK.out.mono ?_
              rintro e5 w2 ⟨ht, hb2⟩
              cases hrd : rd d (l.drop nx) with
              | none =>
                rw [hrd] at ht
                obtain rfl := ht
                have hneg : decide ((-1 : Int) < 0) = true := rfl
                have hbxA : ∀ X, (w2.alloc X).heap[w.heap.size]? = some (.cells #[.int .i64 0, .string ⟨#[]⟩, .int .i64 0, .slice none 0 0] 26 (0, 0)) := fun X => ((bA hb2 X).block _ (Array.getElem?_eq_some_iff.1 HG.out.box).1).trans HG.out.box
                have c0 := fun X => (cells4 (hbxA X)).1
                have c1 := fun X => (cells4 (hbxA X)).2.1
                have c2 := fun X => (cells4 (hbxA X)).2.2.1
                have c3 := fun X => (cells4 (hbxA X)).2.2.2
                have fz := fun X => frozen4 (hbxA X)
                have HBA := Lib.hid hbxA
                have HRDN := Lib.hid hrd
                clear hbxA hrd
                go_wp2_with fail
                have hE := heap_set4 (HBA.out (.cells #[.int .i64 0, .string ⟨#[]⟩, .int .i64 0, .slice none 0 0] 26 (0, 0))) (.int .i64 0) (.string ⟨#[]⟩) (.int .i64 0) (.slice none 0 0)
                have HE : Below w.heap.size w (set4 (w2.alloc (.cells #[.int .i64 0, .string ⟨#[]⟩, .int .i64 0, .slice none 0 0] 26 (0, 0))) w.heap.size (.int .i64 0) (.string ⟨#[]⟩) (.int .i64 0) (.slice none 0 0)) := set4_below (bA (HG.out.below.trans (hb2.mono HG.out.below.size)) _) (Nat.le_refl _) _ _ _ _
                show bodyPost _ _ _ _ _ (set4 (w2.alloc (.cells #[.int .i64 0, .string ⟨#[]⟩, .int .i64 0, .slice none 0 0] 26 (0, 0))) w.heap.size (.int .i64 0) (.string ⟨#[]⟩) (.int .i64 0) (.slice none 0 0))
                generalize set4 (w2.alloc (.cells #[.int .i64 0, .string ⟨#[]⟩, .int .i64 0, .slice none 0 0] 26 (0, 0))) w.heap.size (.int .i64 0) (.string ⟨#[]⟩) (.int .i64 0) (.slice none 0 0) = W at *
                obtain ⟨e0, e1, e2, e3⟩ := cells4 hE
                refine bodyPost_ret (v := .tuple #[.agg #[.int .i64 0, .string ⟨#[]⟩, .int .i64 0, .slice none 0 0], .int .i64 (-1)]) (by simp [results, Tryd.results11, go_sem, e0, e1, e2, e3]) rfl ?_
                have hnone : many (rd d) N r = none := by
                  rw [HG.out.red, show N - j = (N - j - 1) + 1 by omega]
                  exact joined_fail _ _ _ _ HRDN.out
                rw [arrN, hnone]
                exact ⟨rfl, HE⟩
              | some y =>
                obtain ⟨x, l2⟩ := y
                rw [hrd] at ht
                obtain ⟨q', d', rfl, hfrom⟩ := ht
                simp only [repCs]
                obtain ⟨hpl, hll⟩ := rd_place hrd
                rw [List.length_drop] at hll
                obtain ⟨nx2, hnx2⟩ : ∃ nx2, l.length - l2.length = nx2 := ⟨_, rfl⟩
                rw [hnx2] at hpl ⊢
                have hnl : nx2 ≤ l.length := by omega
                have hneg : decide ((nx2 : Int) < 0) = false := decide_eq_false (by omega)
                have hownA : ∀ X, (w2.alloc X).heap[B]? = some (.cells #[.int .i64 5, .string ⟨#[]⟩, .int .i64 0, .slice a' j cap] 26 (0, 0)) := fun X => ((bA hb2 X).block _ (Array.getElem?_eq_some_iff.1 HG.out.own).1).trans HG.out.own
                have o3 := fun X => (cells4 (hownA X)).2.2.2
                clear hownA
                have HF := Lib.hid hfrom
                have HPL := Lib.hid hpl
                have HRDN := Lib.hid hrd
                clear hfrom hrd hpl hnx2 hll
                obtain ⟨x4, hx4⟩ : ∃ x4 : Obj, x4 = .cells #[.int .i64 x.kind, .string (bs x.str), .int .i64 x.num, .slice q' x.kids.length d'] 26 := ⟨_, rfl⟩
                have hsz2 : B < wr.heap.size := (Array.getElem?_eq_some_iff.1 HG.out.own).1
                have hs2 := hb2.size
                have hjb : j + 1 ≤ 1000000000 := by omega
                have HROW := Lib.hid (HG.out.row.kept (below_grown (bA (bA hb2 x4) x4) none) (by simp [Value.ownBlock]; cases a' <;> simp))
                rw [hx4] at HROW
                go_wp2_with (at_builtin; refine wpList_append_lies _ rfl (.tmp 188) (.tmp 190) 24 rfl (B + 1) 26 i0 (.agg #[.int .i64 0, .string ⟨#[]⟩, .int .i64 0, .slice none 0 0]) 4 56 Tryd.underlying24 hi hz0 hz1 hz2 rfl (by decide) _ j _ rfl HROW.out ⟨w2.heap.size + 1, 0, none⟩ 1 1 [.int .i64 x.kind, .string (bs x.str), .int .i64 x.num, .slice q' x.kids.length d'] rfl rfl ?c1 (by intro y hy; simp at hy; rcases hy with rfl | rfl | rfl | rfl <;> rfl) (by decide) (by unfold maxLen; omega) (by omega) (by simp; omega) (w2.heap.size + 2) (by simp) ?_)
                case c1 =>
                  intro k u hk
                  have hnew := heap_alloc_new' (w2.alloc (.cells #[.int .i64 x.kind, .string (bs x.str), .int .i64 x.num, .slice q' x.kids.length d'] 26)) (.cells #[.int .i64 x.kind, .string (bs x.str), .int .i64 x.num, .slice q' x.kids.length d'] 26) (w2.heap.size + 1) (by simp)
                  rw [Lib.add_plain, Nat.zero_add, Lib.cell_of_heap hnew]
                  rw [← hk]
                  match k with
                  | 0 => rfl
                  | 1 => rfl
                  | 2 => rfl
                  | 3 => rfl
                  | k + 4 => rfl
                intro g cap' w3 hown hgrow hgs hgl
                have hG2 := HG.out.step hjl hwB hb2 HF.out (sub_free _ l2) HRDN.out _ _ hown hgrow hgs
                rw [HPL.out] at hG2
                have HG2 := Lib.hid hG2
                have hown3 : w3.heap[B]? = some (.cells #[.int .i64 5, .string ⟨#[]⟩, .int .i64 0, .slice a' j cap] 26 (0, 0)) := by
                  have hl := HG.out.row.lt
                  rw [hgrow.block B (by simp; omega) (fun e => by have := (hl _ e.symm).1; omega)]
                  exact ((bA (bA hb2 _) _).block B hsz2).trans HG.out.own
                have f3 := frozen4 hown3 3
                have u3 := (cells4 hown3).2.2.2
                clear hown hgrow hG2 hown3
                go_wp2
                go_roundw
                case rel => exact ⟨j + 1, nx2, _, some ⟨g, 0, none⟩, cap', by omega, hnl, by go_num, rfl, HG2⟩
                case measure => simp [intOf]; omega
            · have hdj : decide ((j : Int) < (N : Int)) = false := decide_eq_false (by omega)
              obtain rfl : j = N := by omega
              obtain ⟨o0, o1, o2, o3⟩ := cells4 HG.out.own
              have hbx := HG.out.box
              obtain ⟨z0, z1, z2, z3⟩ := cells4 hbx
              have fz := frozen4 hbx
              clear hbx
              go_wp2_with fail
              have hE := heap_set4 HG.out.box (.int .i64 5) (.string ⟨#[]⟩) (.int .i64 0) (.slice a' j cap)
              have HE : Below w.heap.size w (set4 wr w.heap.size (.int .i64 5) (.string ⟨#[]⟩) (.int .i64 0) (.slice a' j cap)) := set4_below HG.out.below (Nat.le_refl _) _ _ _ _
              have hFrom := array_from (lo := w.heap.size) (w' := set4 wr w.heap.size (.int .i64 5) (.string ⟨#[]⟩) (.int .i64 0) (.slice a' j cap)) HG.out.len HG.out.row HG.out.kids (by omega) (Nat.le_succ _) (by rw [set4_size]; exact Nat.le_refl _) (fun k k1 _ => set4_other _ _ _ _ _ _ _ (by omega))
              show bodyPost _ _ _ _ _ (set4 wr w.heap.size (.int .i64 5) (.string ⟨#[]⟩) (.int .i64 0) (.slice a' j cap))
              generalize set4 wr w.heap.size (.int .i64 5) (.string ⟨#[]⟩) (.int .i64 0) (.slice a' j cap) = W at *
              obtain ⟨e0, e1, e2, e3⟩ := cells4 hE
              refine bodyPost_ret (v := .tuple #[.agg #[.int .i64 5, .string ⟨#[]⟩, .int .i64 0, .slice a' j cap], .int .i64 nx]) (by simp [results, Tryd.results11, go_sem, e0, e1, e2, e3]) rfl ?_
              have hsome : many (rd d) j r = some (xs.map (·.1), l.drop nx) := by
                rw [HG.out.red, Nat.sub_self]
                exact joinR_end _ _ _
              rw [arrN, hsome]
              have hlen := HG.out.len
              refine ⟨⟨a', cap, ?_, hFrom⟩, HE⟩
              have hnn : l.length - (l.drop nx).length = nx := by rw [List.length_drop]; omega
              rw [hnn]
              simp [repCs, Rep.kids, Rep.kind, Rep.str, Rep.num, hlen, bs]
        · have hn : ((x1.toNat : Int) != 10) = true := byte_ne g10
          have HG := Lib.hid (fun (hh : l[e] = 13 ∧ l[e + 1] = 10) => g10 (hx1.symm.trans hh.2))
          have hsn := Lib.hid (HS.out.next hae hlt HG.out)
          subst g13
          clear hx0 hx1 g10
          go_wp2_with fail
          go_round
          case rel => exact ⟨e + 1, by omega, by omega, by go_num, hsn⟩
          case measure => simp [intOf]; omega
      · have hn : ((x0.toNat : Int) != 13) = true := byte_ne g13
        have hsn := Lib.hid (HS.out.next hae hlt (fun hh => g13 (hx0.symm.trans hh.1)))
        clear hx0 hx1 g13
        go_wp2_with fail
        go_round
        case rel => exact ⟨e + 1, by omega, by omega, by go_num, hsn⟩
        case measure => simp [intOf]; omega
    · have hdl : decide ((e : Int) + 1 < (l.length : Int)) = false := decide_eq_false (by omega)
      exfalso; have := HS.out.none hlt; rw [HLN.out] at this; cases this

set_option maxRecDepth 20000 in
set_option maxHeartbeats 2000000 in
/-- Slices that stand nowhere: nothing can be read of them. -/
theorem rr_nil (D : Int) (p : Option Addr) (c : Nat) (w : World) :
    Calls Tryd.prog 11 #[.slice p 0 c, .int .i64 0, .int .i64 D] w fun e w' => e = .returned (.tuple #[.agg #[.int .i64 0, .string ⟨#[]⟩, .int .i64 0, .slice none 0 0], .int .i64 (-1)]) ∧ Below w.heap.size w w' := by
  have hB0 : Below w.heap.size w (w.alloc (.cells #[.int .i64 0, .string ⟨#[]⟩, .int .i64 0, .slice none 0 0] 26)) := bA (Below.refl _ _) _
  have HBX0 := Lib.hid (heap_alloc_new w (.cells #[.int .i64 0, .string ⟨#[]⟩, .int .i64 0, .slice none 0 0] 26))
  go_enter Tryd.func11, Tryd.ntmps11
  go_wp2_with fail
  generalize w.alloc (.cells #[.int .i64 0, .string ⟨#[]⟩, .int .i64 0, .slice none 0 0] 26 (0, 0)) = wB at *
  go_loop [8] (fun s8 => s8 = .int .i64 0) (fun s8 => 0)
  case atStart => rfl
  case round =>
    obtain rfl := hrel
    have hbx : wB.heap[w.heap.size]? = some (.cells #[.int .i64 0, .string ⟨#[]⟩, .int .i64 0, .slice none 0 0] 26 (0, 0)) := HBX0.out
    obtain ⟨z0, z1, z2, z3⟩ := cells4 hbx
    have fz := frozen4 hbx
    go_wp2_with fail
    have hE := heap_set4 hbx (.int .i64 0) (.string ⟨#[]⟩) (.int .i64 0) (.slice none 0 0)
    have HE : Below w.heap.size w (set4 (wB) w.heap.size (.int .i64 0) (.string ⟨#[]⟩) (.int .i64 0) (.slice none 0 0)) := set4_below (hB0) (Nat.le_refl _) _ _ _ _
    show bodyPost _ _ _ _ _ (set4 (wB) w.heap.size (.int .i64 0) (.string ⟨#[]⟩) (.int .i64 0) (.slice none 0 0))
    generalize set4 (wB) w.heap.size (.int .i64 0) (.string ⟨#[]⟩) (.int .i64 0) (.slice none 0 0) = W at *
    obtain ⟨e0, e1, e2, e3⟩ := cells4 hE
    refine bodyPost_ret (v := .tuple #[.agg #[.int .i64 0, .string ⟨#[]⟩, .int .i64 0, .slice none 0 0], .int .i64 (-1)]) (by simp [results, Tryd.results11, go_sem, e0, e1, e2, e3]) rfl ?_
    exact ⟨rfl, HE⟩

/-- THE REFERENCE's Read. -/
theorem refread_step (d : Nat) (hd : d ≤ 4) (ih : ∀ e, d = e + 1 → RefAt e) : RefAt d := by
  intro l hl a ha p c w h
  rw [rd_ref, readR]
  rcases h with ⟨rfl, rfl, rfl⟩ | ⟨b, o, rfl, h1, h2, h3⟩
  · obtain rfl : a = 0 := by simpa using ha
    exact rr_nil d none 0 w
  have h : Rest w (some ⟨b, o, none⟩) c l := .inr ⟨b, o, rfl, h1, h2, h3⟩
  cases hln : lineR (l.drop a) with
  | none => exact rr_none l hl a ha hln d b o c w h
  | some z =>
    obtain ⟨u, r⟩ := z
    cases u with
    | nil => exact rr_empty l hl a ha r hln d b o c w h
    | cons x t =>
      show Calls _ _ _ _ fun e w' => RefV w.heap.size w' l.length e (kindR (arD d) x t r) ∧ _
      unfold kindR
      have hrl : r.length ≤ l.length := by
        have := congrArg List.length (lineR_split _ _ _ hln)
        rw [List.length_drop] at this
        simp at this
        omega
      by_cases k43 : x = 43
      · subst k43
        rw [if_pos rfl]
        cases hc : calm t with
        | true => exact rr_43_true l hl a ha t r hln hc d b o c w h
        | false => exact rr_43_false l hl a ha t r hln hc d b o c w h
      rw [if_neg k43]
      by_cases k45 : x = 45
      · subst k45
        rw [if_pos rfl]
        cases hc : calm t with
        | true => exact rr_45_true l hl a ha t r hln hc d b o c w h
        | false => exact rr_45_false l hl a ha t r hln hc d b o c w h
      rw [if_neg k45]
      by_cases k58 : x = 58
      · subst k58
        rw [if_pos rfl]
        cases hp : parseL t with
        | none => exact rr_58_none l hl a ha t r hln hp d b o c w h
        | some n => exact rr_58_some l hl a ha t r hln n hp d b o c w h
      rw [if_neg k58]
      by_cases k36 : x = 36
      · subst k36
        rw [if_pos rfl, bulkOf]
        by_cases ht : t = [45, 49]
        · rw [if_pos ht]
          exact rr_36_null l hl a ha t r hln ht d b o c w h
        rw [if_neg ht]
        cases hp : parseL t with
        | none => exact rr_36_none l hl a ha t r hln ht hp d b o c w h
        | some n =>
          simp only
          by_cases hn : n < 0
          · rw [if_neg (by omega)]
            exact rr_36_neg l hl a ha t r hln ht n hp hn d b o c w h
          obtain ⟨N, rfl⟩ := Int.eq_ofNat_of_zero_le (Int.not_lt.1 hn)
          rw [Int.toNat_natCast]
          by_cases hb : l.length < N
          · rw [if_neg (by omega)]
            exact rr_36_big l hl a ha t r hln ht N hp hb d b o c w h
          by_cases hs : r.length < N + 2
          · have e : (if (0 : Int) ≤ (N : Int) ∧ (N : Int) ≤ (r.length : Int) then (if crlf (r.drop N) then some (Rep.mk 3 (r.take N) 0 [], r.drop (N + 2)) else none) else none) = none := by
              split
              · rw [if_neg]
                intro hc
                have := crlf_len hc
                rw [List.length_drop] at this
                omega
              · rfl
            rw [e]
            exact rr_36_short l hl a ha t r hln ht N hp (by omega) hs d b o c w h
          rw [if_pos ⟨by omega, by omega⟩]
          by_cases h13 : r[N] = 13
          · by_cases h10 : r[N + 1] = 10
            · rw [if_pos (crlf_at (by omega) h13 h10)]
              exact rr_36_ok l hl a ha t r hln ht N hp (by omega) (by omega) h13 h10 d b o c w h
            · rw [if_neg (fun hc => h10 (crlf_of (by omega) hc).2)]
              exact rr_36_lf l hl a ha t r hln ht N hp (by omega) (by omega) h13 h10 d b o c w h
          · rw [if_neg (fun hc => h13 (crlf_of (by omega) hc).1)]
            exact rr_36_cr l hl a ha t r hln ht N hp (by omega) (by omega) h13 d b o c w h
      rw [if_neg k36]
      by_cases k42 : x = 42
      · subst k42
        rw [if_pos rfl]
        cases d with
        | zero =>
          show Calls _ _ _ _ fun e w' => RefV w.heap.size w' l.length e none ∧ _
          cases hp : parseL t with
          | none => exact rr_42_none l hl a ha t r hln hp _ b o c w h
          | some n =>
            by_cases hn : n < 0
            · exact rr_42_neg l hl a ha t r hln n hp hn _ b o c w h
            obtain ⟨N, rfl⟩ := Int.eq_ofNat_of_zero_le (Int.not_lt.1 hn)
            by_cases hb : l.length < N
            · exact rr_42_big l hl a ha t r hln N hp hb _ b o c w h
            exact rr_42_flat l hl a ha t r hln N hp (by omega) b o c w h
        | succ d =>
          show Calls _ _ _ _ fun e w' => RefV w.heap.size w' l.length e (arrayOf (rd d) t r) ∧ _
          cases hp : parseL t with
          | none =>
            rw [show arrayOf (rd d) t r = none by rw [arrayOf, hp]]
            exact rr_42_none l hl a ha t r hln hp _ b o c w h
          | some n =>
            by_cases hn : n < 0
            · rw [show arrayOf (rd d) t r = none by rw [arrayOf, hp]; exact if_neg (by omega)]
              exact rr_42_neg l hl a ha t r hln n hp hn _ b o c w h
            obtain ⟨N, rfl⟩ := Int.eq_ofNat_of_zero_le (Int.not_lt.1 hn)
            by_cases hb : l.length < N
            · rw [array_need d t r N hp (by omega)]
              exact rr_42_big l hl a ha t r hln N hp hb _ b o c w h
            rw [show arrayOf (rd d) t r = arrN d N r by
              rw [arrayOf, hp]
              show (if (0 : Int) ≤ (N : Int) then _ else _) = _
              rw [if_pos (by omega), Int.toNat_natCast, arrN]
              cases many (rd d) N r <;> rfl]
            exact rr_42_loop l hl a ha d (by omega) (ih d rfl) t r hln N hp (by omega) b o c w h
      rw [if_neg k42]
      exact rr_else l hl a ha x t r hln k43 k45 k58 k36 k42 d b o c w h
theorem refread_any : ∀ d, d ≤ 4 → RefAt d
  | 0, h => refread_step 0 h (fun e he => by omega)
  | d + 1, h => refread_step (d + 1) h (fun e he => by
    obtain rfl : e = d := by omega
    exact refread_any _ (by omega))
theorem rd_nil (d : Nat) : rd d [] = none := by
  rw [rd_ref]
  rfl
end Go.Proofs.YtdeacankicciaaaDoor
