/-
  What is written: a slice of bytes in a variable of the call's own, appended to. What the line that is handed to resp.encode does: its parts and CR LF are appended. What resp.encode does: a right reply's encoding is appended. What resp.encode does of an array; whole. What resp.Write answers: the encodings of the right replies, one behind the other.
-/
import Derived.Test.YtcikelcecfapcaaDoorRespFits
import Derived.Test.YtcikelcecfapcaaDoorRespPrint
import Derived.Lib.AppendStr
import Derived.OwnWalk
import Derived.Laws.OwnMore
namespace Go.Proofs.YtcikelcecfapcaaDoor
open Go.RowKit Rp

/-- The cells of bytes. -/
def sCells (l : List UInt8) : List Value := l.map fun b => Value.int .u8 b.toNat
theorem sCells_len (l : List UInt8) : (sCells l).length = l.length := by simp [sCells]
theorem sCells_append (a b : List UInt8) : sCells (a ++ b) = sCells a ++ sCells b := by simp [sCells]
theorem sCells_bs (l : List UInt8) : Lib.strCells (bs l) = sCells l := by simp [Lib.strCells, sCells, bs]

theorem info_u8 : (Tryd.prog.info? 5).map (fun i => (i.zero, i.size, i.bytes)) = some (some (.int .u8 0), 1, 1) := by kernel_rfl

/-- The variable at block B holds the slice v, whose bytes are xs, in a row of its own behind B. -/
structure Out (B : Nat) (v : Value) (xs : List UInt8) (w : World) : Prop where
  var : w.heap[B]? = some (.cells #[v] 22 (0, 0))
  row : w.ownsRow (B + 1) 5 1 v xs.length (sCells xs)

/-- A block that is no row of bytes. -/
def NoBytes (w : World) (k : Nat) : Prop := ∀ cs fr, w.heap[k]? ≠ some (.cells cs 5 fr)

/-- From w to w': what was written, in the variable at B and in rows of bytes behind it alone. -/
structure Wrote (B : Nat) (w w' : World) : Prop where
  os : w'.os = w.os
  tape : w'.tape = w.tape
  output : w'.output = w.output
  size : w.heap.size ≤ w'.heap.size
  block : ∀ k, k < w.heap.size → k ≠ B → (k < B ∨ NoBytes w k) → w'.heap[k]? = w.heap[k]?

theorem NoBytes.on {w w' : World} {k : Nat} (h : NoBytes w k) (e : w'.heap[k]? = w.heap[k]?) : NoBytes w' k := fun cs fr => by rw [e]; exact h cs fr
theorem Wrote.refl (B : Nat) (w : World) : Wrote B w w := ⟨rfl, rfl, rfl, Nat.le_refl _, fun _ _ _ _ => rfl⟩
theorem Wrote.trans {B : Nat} {w w1 w2 : World} (h : Wrote B w w1) (g : Wrote B w1 w2) : Wrote B w w2 where
  os := g.os.trans h.os
  tape := g.tape.trans h.tape
  output := g.output.trans h.output
  size := Nat.le_trans h.size g.size
  block := fun k hk hB hv => (g.block k (Nat.lt_of_lt_of_le hk h.size) hB (hv.imp id (fun e => e.on (h.block k hk hB hv)))).trans (h.block k hk hB hv)
theorem Wrote.of_below {B : Nat} {w w1 : World} (h : Below w.heap.size w w1) : Wrote B w w1 := ⟨h.os, h.tape, h.output, h.size, fun k hk _ _ => h.block k hk⟩
theorem Wrote.below {B : Nat} {w w1 w2 : World} (h : Wrote B w w1) (hb : Below w1.heap.size w1 w2) : Wrote B w w2 := h.trans (.of_below hb)
/-- All that lay ahead of B is as it was. -/
theorem Wrote.ahead {B : Nat} {w w1 : World} (h : Wrote B w w1) (hB : B < w.heap.size) : Below B w w1 := ⟨h.os, h.tape, h.output, h.size, fun k hk => h.block k (by omega) (by omega) (.inl hk)⟩

theorem below_grown {w w1 : World} (h : Below w.heap.size w w1) (r : Option Nat) : w.grownBy w1 r := ⟨h.os, h.tape, h.output, h.size, fun k hk _ => h.block k hk⟩

theorem Out.lt {B : Nat} {v : Value} {xs : List UInt8} {w : World} (h : Out B v xs w) : B < w.heap.size := (Array.getElem?_eq_some_iff.1 h.var).1
theorem Out.far {B : Nat} {v : Value} {xs : List UInt8} {w : World} (h : Out B v xs w) : ∀ k, v.ownBlock = some k → B < k ∧ k < w.heap.size := fun k hk => by
  have := h.row.lt k hk; omega
theorem Out.below {B : Nat} {v : Value} {xs : List UInt8} {w w1 : World} (h : Out B v xs w) (hb : Below w.heap.size w w1) : Out B v xs w1 :=
  ⟨(hb.block B h.lt).trans h.var, h.row.kept (below_grown hb none) (by cases v.ownBlock <;> simp)⟩

/-- The new slice stored behind an append. -/
theorem Out.put {B : Nat} {v v' : Value} {xs ys : List UInt8} {w w1 : World} (h : Out B v xs w) (hg : w.grownBy w1 v.ownBlock) (hr : w1.ownsRow (B + 1) 5 1 v' ys.length (sCells ys)) :
    Out B v' ys (w1.setCell ⟨B, 0, none⟩ v') ∧ Wrote B w (w1.setCell ⟨B, 0, none⟩ v') := by
  have hB := h.lt
  have hv1 : w1.heap[B]? = some (.cells #[v] 22 (0, 0)) := (hg.block B hB (fun e => by have := (h.far B e.symm).1; omega)).trans h.var
  have hset : (w1.setCell ⟨B, 0, none⟩ v').heap[B]? = some (.cells #[v'] 22 (0, 0)) := by simp [World.setCell, Array.getElem?_modify, hv1]
  have hother : ∀ k, k ≠ B → (w1.setCell ⟨B, 0, none⟩ v').heap[k]? = w1.heap[k]? := fun k hk => Below.heap_setCell _ _ _ _ hk
  have hsz : (w1.setCell ⟨B, 0, none⟩ v').heap.size = w1.heap.size := by simp [World.setCell]
  refine ⟨⟨hset, ownsRow_setCell_below hr (by show B < B + 1; omega) _⟩, ⟨hg.os, hg.tape, hg.output, by rw [hsz]; exact hg.size, fun k hk hkB hkv => (hother k hkB).trans (hg.block k hk (fun e => ?_))⟩⟩
  rcases hkv with hkv | hkv
  · have := (h.far k e.symm).1; omega
  · rcases h.row.2 with ⟨rfl, _⟩ | ⟨g, cap, cur, rfl, _, hgc, _⟩
    · simp [Value.ownBlock] at e
    · simp only [Value.ownBlock, Option.some.injEq] at e
      subst e
      exact hkv _ _ hgc
end Go.Proofs.YtcikelcecfapcaaDoor

namespace Go.Proofs.YtcikelcecfapcaaDoor
open Go.RowKit Rp

/-- The first parts, one behind the other. -/
def joined (ps : List (List UInt8)) (j : Nat) : List UInt8 := (ps.take j).flatten
theorem joined_next (ps : List (List UInt8)) (j : Nat) (h : j < ps.length) : joined ps (j + 1) = joined ps j ++ ps[j] := by
  unfold joined
  rw [List.take_succ_eq_append_getElem h, List.flatten_append]
  simp
theorem joined_all (ps : List (List UInt8)) : joined ps ps.length = ps.flatten := by simp [joined]
theorem joined_le (ps : List (List UInt8)) (j : Nat) (h : j < ps.length) : (joined ps j).length + ps[j].length ≤ ps.flatten.length := by
  have h1 : (joined ps (j + 1)).length ≤ ps.flatten.length := by
    have : ps.flatten = (ps.take (j + 1)).flatten ++ (ps.drop (j + 1)).flatten := by rw [← List.flatten_append, List.take_append_drop]
    rw [this, List.length_append]; exact Nat.le_add_right _ _
  rw [joined_next ps j h, List.length_append] at h1
  exact h1

theorem frozen_at {W : World} {b : Nat} {cs : Array Value} {T : TypeId} (h : W.heap[b]? = some (.cells cs T (0, 0))) : W.frozen? ⟨b, 0, none⟩ = false := by rw [Lib.frozen_of_heap h]

theorem mine {B : Nat} {v : Value} {xs : List UInt8} {w w1 : World} (h : Out B v xs w) (hg : w.grownBy w1 v.ownBlock) : w1.cell? ⟨B, 0, none⟩ = some v ∧ w1.frozen? ⟨B, 0, none⟩ = false := by
  have hv1 : w1.heap[B]? = some (.cells #[v] 22 (0, 0)) := (hg.block B h.lt (fun e => by have := (h.far B e.symm).1; omega)).trans h.var
  exact ⟨by rw [Lib.cell_of_heap hv1]; rfl, frozen_at hv1⟩

theorem row_slice {w : World} {base : Nat} {e : TypeId} {size : Nat} {v : Value} {n : Nat} {xs : List Value} (h : w.ownsRow base e size v n xs) : ∃ a m c, v = .slice a m c := by
  rcases h.2 with ⟨rfl, _⟩ | ⟨g, cap, cur, rfl, _⟩
  · exact ⟨_, _, _, rfl⟩
  · exact ⟨_, _, _, rfl⟩

set_option maxRecDepth 20000 in
set_option maxHeartbeats 2000000 in
theorem line_any (B G cap : Nat) (v : Value) (xs : List UInt8) (ps : List (List UInt8)) (w : World) (hO : Out B v xs w) (hG : G ≠ B) (hGn : G < B ∨ NoBytes w G) (hGl : G < w.heap.size)
    (hc : ∀ j (h : j < ps.length), w.cell? ⟨G, j, none⟩ = some (.string (bs ps[j]))) (hl : ps.length ≤ 1099511627776) (hlen : xs.length + ps.flatten.length + 2 ≤ 1099511627776) :
    Calls Tryd.prog 37 #[.slice (some ⟨G, 0, none⟩) ps.length cap, .pointer (some ⟨B, 0, none⟩)] w fun e w' => e = .returned (.tuple #[]) ∧ ∃ v', Out B v' (xs ++ (ps.flatten ++ [13, 10])) w' ∧ Wrote B w w' := by
  obtain ⟨i0, hi, hz0, hz1, hz2⟩ := info_parts info_u8
  obtain ⟨M, hM⟩ : ∃ M, M = ps.length := ⟨_, rfl⟩
  rw [← hM] at hl ⊢
  have HM := Lib.hid hM
  have HC := Lib.hid hc
  clear hM hc
  go_enter Tryd.func37, Tryd.ntmps37
  go_wp2
  go_loopw [4, 7] (fun _ i wr => ∃ (j : Nat) (u : Value) (X : List UInt8), j ≤ M ∧ i = .int .i64 j ∧ Hid (X = xs ++ joined ps j) ∧ Out B u X wr ∧ Wrote B w wr) (fun _ i _ => M - (intOf i).toNat)
  case atStart => exact ⟨0, v, xs, Nat.zero_le _, rfl, Lib.hid (by simp [joined]), hO, Wrote.refl B w⟩
  case round =>
    obtain ⟨j, u, X, hj, rfl, HX, hO1, hW⟩ := hrel
    have cB : wr.cell? ⟨B, 0, none⟩ = some u := by rw [Lib.cell_of_heap hO1.var]; rfl
    have fB := frozen_at hO1.var
    have hsz := hO1.lt
    by_cases hjl : j < M
    · have hd1 : decide ((j : Int) < (M : Int)) = true := decide_eq_true (by omega)
      have hja : j < ps.length := by have := HM.out; omega
      have cG := (World.cell?_of_block (a := ⟨G, j, none⟩) (hW.block G hGl hG hGn)).trans (HC.out j hja)
      have hJ := joined_le ps j hja
      have HN := Lib.hid (joined_next ps j hja)
      have hpl := bs_size ps[j]
      have HP := Lib.hid (sCells_bs ps[j])
      have HO := Lib.hid hO1
      clear hO1
      generalize ps[j] = part at *
      generalize joined ps j = done at *
      have hown := HO.out.row
      generalize hS : bs part = S at *
      have HS := Lib.hid hS
      have HL := Lib.hid hpl
      clear hS hpl hja
      have hpart : X.length + S.size ≤ 1099511627776 := by rw [HX.out, List.length_append, HL.out]; omega
      go_wp2_with (at_builtin; refine Lib.wpList_append_own_string _ rfl (.tmp 11) (.tmp 12) 22 9 rfl (B + 1) 5 i0 Tryd.underlying22 Tryd.underlying9 hi hz0 hz1 hz2 u _ _ rfl hown S rfl (by unfold maxLen; omega) (by omega) (by omega) ?_)
      intro u' w1 hown1 hgrow hnil
      clear hnil
      obtain ⟨m1, m2⟩ := mine HO.out hgrow
      obtain ⟨ua, un, uc, rfl⟩ := row_slice hown1
      have hyl : (X ++ part).length = X.length + S.size := by rw [List.length_append, HL.out]
      have hput := HO.out.put (ys := X ++ part) hgrow (by rw [hyl, sCells_append, ← HP.out]; exact hown1)
      have HPU := Lib.hid hput
      clear hput hown1 hgrow hown hyl
      go_wp2
      go_roundw
      case rel => exact ⟨j + 1, _, X ++ part, by omega, by go_num, Lib.hid (by rw [HN.out, HX.out, List.append_assoc]), HPU.out.1, hW.trans HPU.out.2⟩
      case measure => simp [intOf]; omega
    · have hd1 : decide ((j : Int) < (M : Int)) = false := decide_eq_false (by omega)
      obtain rfl : j = M := by omega
      have hown := hO1.row
      have HO := Lib.hid hO1
      have HJ := Lib.hid (show joined ps j = ps.flatten by rw [HM.out]; exact joined_all ps)
      clear hO1
      have hlj : (joined ps j).length = ps.flatten.length := by rw [HJ.out]
      generalize joined ps j = done at *
      have hpart : X.length + 2 ≤ 1099511627776 := by rw [HX.out, List.length_append]; omega
      have HLJ := Lib.hid hlj
      clear hlj
      go_wp2_with (at_builtin; refine Lib.wpList_append_own_string _ rfl (.tmp 15) (.const (.string ⟨#[13, 10]⟩)) 22 9 rfl (B + 1) 5 i0 Tryd.underlying22 Tryd.underlying9 hi hz0 hz1 hz2 u _ _ rfl hown ⟨#[13, 10]⟩ rfl (by unfold maxLen; show _ + 2 ≤ _; omega) (by show _ + 2 ≤ _; omega) (by omega) ?_)
      intro u' w1 hown1 hgrow hnil
      clear hnil
      obtain ⟨m1, m2⟩ := mine HO.out hgrow
      obtain ⟨ua, un, uc, rfl⟩ := row_slice hown1
      have hput := HO.out.put (ys := X ++ [13, 10]) hgrow (by rw [List.length_append, sCells_append]; exact hown1)
      have HPU := Lib.hid hput
      clear hput hown1 hgrow hown
      go_wp2
      go_end0
      exact ⟨rfl, _, by have h := HPU.out.1; rw [HX.out, HJ.out, List.append_assoc] at h; exact h, hW.trans HPU.out.2⟩
end Go.Proofs.YtcikelcecfapcaaDoor

namespace Go.Proofs.YtcikelcecfapcaaDoor
open Go.RowKit Rp

theorem noBytes_of {w : World} {k : Nat} {cs : Array Value} {T : TypeId} {fr : Nat × Nat} (h : w.heap[k]? = some (.cells cs T fr)) (hT : T ≠ 5) : NoBytes w k := fun cs' fr' e => by
  rw [h] at e
  simp only [Option.some.injEq, Obj.cells.injEq] at e
  exact hT e.2.1

/-- What the line appends. -/
def Wr (B : Nat) (w : World) (ys : List UInt8) (e : Ending) (w' : World) : Prop := e = .returned (.tuple #[]) ∧ ∃ v', Out B v' ys w' ∧ Wrote B w w'

theorem line2 {B : Nat} {v : Value} {xs : List UInt8} {w : World} (hO : Out B v xs w) (G : Nat) (a b : List UInt8) (A C : ByteArray) (hG : w.heap[G]? = some (.cells #[.string A, .string C] 9 (0, 0))) (hA : A = bs a) (hC : C = bs b) (hlen : xs.length + (a.length + b.length) + 2 ≤ 1099511627776) :
    Calls Tryd.prog 37 #[.slice (some ⟨G, 0, none⟩) 2 2, .pointer (some ⟨B, 0, none⟩)] w (Wr B w (xs ++ (a ++ (b ++ [13, 10])))) := by
  subst hA hC
  have hne : G ≠ B := fun e => by
    subst e
    have := hO.var
    rw [hG] at this
    simp at this
  have h := line_any B G 2 v xs [a, b] w hO hne (.inr (noBytes_of hG (by decide))) (Array.getElem?_eq_some_iff.1 hG).1 (fun j hj => ?_) (by show 2 ≤ 1099511627776; omega) (by simpa using hlen)
  · have e : xs ++ ([a, b].flatten ++ [13, 10]) = xs ++ (a ++ (b ++ [13, 10])) := by simp
    rw [e] at h
    exact h
  · match j, hj with
    | 0, _ => rw [Lib.cell_of_heap hG]; rfl
    | 1, _ => rw [Lib.cell_of_heap hG]; rfl

theorem line1 {B : Nat} {v : Value} {xs : List UInt8} {w : World} (hO : Out B v xs w) (G : Nat) (a : List UInt8) (A : ByteArray) (hG : w.heap[G]? = some (.cells #[.string A] 9 (0, 0))) (hA : A = bs a) (hlen : xs.length + a.length + 2 ≤ 1099511627776) :
    Calls Tryd.prog 37 #[.slice (some ⟨G, 0, none⟩) 1 1, .pointer (some ⟨B, 0, none⟩)] w (Wr B w (xs ++ (a ++ [13, 10]))) := by
  subst hA
  have hne : G ≠ B := fun e => by
    subst e
    have := hO.var
    rw [hG] at this
    simp at this
  have h := line_any B G 1 v xs [a] w hO hne (.inr (noBytes_of hG (by decide))) (Array.getElem?_eq_some_iff.1 hG).1 (fun j hj => ?_) (by show 1 ≤ 1099511627776; omega) (by simpa using hlen)
  · have e : xs ++ ([a].flatten ++ [13, 10]) = xs ++ (a ++ [13, 10]) := by simp
    rw [e] at h
    exact h
  · match j, hj with
    | 0, _ => rw [Lib.cell_of_heap hG]; rfl

theorem two_heap (w : World) (o : Obj) (o2 : Obj) (k : Nat) (h : k = w.heap.size + 1) : ((w.alloc o).alloc o2).heap[k]? = some o2 := by
  subst h
  have := heap_alloc_new (w.alloc o) o2
  rwa [show (w.alloc o).heap.size = w.heap.size + 1 by simp] at this

theorem wr_mk {B : Nat} {w w1 w2 : World} {v : Value} {ys : List UInt8} (hb : Wrote B w w1) (hO : Out B v ys w2) (hW : Wrote B w1 w2) : Wr B w ys (.returned (.tuple #[])) w2 := ⟨rfl, v, hO, hb.trans hW⟩

set_option maxRecDepth 20000 in
set_option maxHeartbeats 1000000 in
theorem enc_0 (B : Nat) (v : Value) (xs : List UInt8) (s : List UInt8) (c : Nat) (p : Option Addr) (w : World) (hO : Out B v xs w) (hlen : xs.length + (1 + s.length) + 2 ≤ 1099511627776) :
    Calls Tryd.prog 38 #[.agg #[.int .i64 0, .string (bs s), .int .i64 0, .slice p 0 c], .func (.func 37) #[] #[.pointer (some ⟨B, 0, none⟩)]] w (Wr B w (xs ++ (43 :: (s ++ [13, 10])))) := by
  have eg := enters_of Tryd.func37 (by kernel_rfl) rfl
  obtain ⟨S, hS⟩ : ∃ S, S = bs s := ⟨_, rfl⟩
  have hSz : S.size = s.length := by rw [hS]; exact bs_size s
  rw [← hS]
  have HS := Lib.hid hS
  clear hS
  clear hSz
  go_enter Tryd.func38, Tryd.ntmps38
  go_wp2_with fail
  refine (line2 (hO.below (bA (bA (Below.refl _ _) _) _)) _ [43] s _ _ (two_heap _ _ _ _ rfl) rfl HS.out (by simpa using hlen)).mono ?_
  rintro e w1 ⟨rfl, v1, hO1, hW1⟩
  go_wp2
  go_end0
  exact wr_mk (.of_below (bA (bA (Below.refl _ _) _) _)) hO1 hW1

set_option maxRecDepth 20000 in
set_option maxHeartbeats 1000000 in
theorem enc_1 (B : Nat) (v : Value) (xs : List UInt8) (s : List UInt8) (c : Nat) (p : Option Addr) (w : World) (hO : Out B v xs w) (hlen : xs.length + (1 + s.length) + 2 ≤ 1099511627776) :
    Calls Tryd.prog 38 #[.agg #[.int .i64 1, .string (bs s), .int .i64 0, .slice p 0 c], .func (.func 37) #[] #[.pointer (some ⟨B, 0, none⟩)]] w (Wr B w (xs ++ (45 :: (s ++ [13, 10])))) := by
  have eg := enters_of Tryd.func37 (by kernel_rfl) rfl
  obtain ⟨S, hS⟩ : ∃ S, S = bs s := ⟨_, rfl⟩
  have hSz : S.size = s.length := by rw [hS]; exact bs_size s
  rw [← hS]
  have HS := Lib.hid hS
  clear hS
  clear hSz
  go_enter Tryd.func38, Tryd.ntmps38
  go_wp2_with fail
  refine (line2 (hO.below (bA (bA (Below.refl _ _) _) _)) _ [45] s _ _ (two_heap _ _ _ _ rfl) rfl HS.out (by simpa using hlen)).mono ?_
  rintro e w1 ⟨rfl, v1, hO1, hW1⟩
  go_wp2
  go_end0
  exact wr_mk (.of_below (bA (bA (Below.refl _ _) _) _)) hO1 hW1

set_option maxRecDepth 20000 in
set_option maxHeartbeats 1000000 in
theorem enc_2 (B : Nat) (v : Value) (xs : List UInt8) (n : Int) (hn : Fits n) (c : Nat) (p : Option Addr) (w : World) (hT : Tens w) (hO : Out B v xs w) (hlen : xs.length + (1 + (Lib.itoa n).length) + 2 ≤ 1099511627776) :
    Calls Tryd.prog 38 #[.agg #[.int .i64 2, .string (bs []), .int .i64 n, .slice p 0 c], .func (.func 37) #[] #[.pointer (some ⟨B, 0, none⟩)]] w (Wr B w (xs ++ (58 :: (Lib.itoa n ++ [13, 10])))) := by
  have eg := enters_of Tryd.func37 (by kernel_rfl) rfl
  have HP : ∀ W, Below w.heap.size w W → _ := fun W hb => print_any n hn W (hT.on hb)
  have HPH := Lib.hid HP
  clear HP
  obtain ⟨N, hN⟩ : ∃ N, N = numText n := ⟨_, rfl⟩
  rw [← hN] at HPH
  have HN := Lib.hid (show N = bs (Lib.itoa n) from hN)
  clear hN
  go_enter Tryd.func38, Tryd.ntmps38
  go_wp2_with fail
  refine (HPH.out _ (bA (Below.refl _ _) _)).mono ?_
  rintro e w1 ⟨rfl, hb1⟩
  go_wp2_with fail
  have hb2 : Below w.heap.size w w1 := bT (bA (Below.refl _ _) _) hb1
  refine (line2 (hO.below (bA hb2 _)) _ [58] (Lib.itoa n) _ _ (heap_alloc_new w1 _) rfl HN.out (by simpa using hlen)).mono ?_
  rintro e w2 ⟨rfl, v1, hO1, hW1⟩
  go_wp2
  go_end0
  exact wr_mk (.of_below (bA hb2 _)) hO1 hW1

set_option maxRecDepth 20000 in
set_option maxHeartbeats 1000000 in
theorem enc_4 (B : Nat) (v : Value) (xs : List UInt8) (c : Nat) (p : Option Addr) (w : World) (hO : Out B v xs w) (hlen : xs.length + 5 ≤ 1099511627776) :
    Calls Tryd.prog 38 #[.agg #[.int .i64 4, .string (bs []), .int .i64 0, .slice p 0 c], .func (.func 37) #[] #[.pointer (some ⟨B, 0, none⟩)]] w (Wr B w (xs ++ [36, 45, 49, 13, 10])) := by
  have eg := enters_of Tryd.func37 (by kernel_rfl) rfl
  go_enter Tryd.func38, Tryd.ntmps38
  go_wp2_with fail
  refine (line2 (hO.below (bA (bA (Below.refl _ _) _) _)) _ [36] [45, 49] _ _ (two_heap _ _ _ _ rfl) rfl rfl (by simpa using hlen)).mono ?_
  rintro e w1 ⟨rfl, v1, hO1, hW1⟩
  go_wp2
  go_end0
  exact wr_mk (.of_below (bA (bA (Below.refl _ _) _) _)) hO1 hW1

set_option maxRecDepth 20000 in
set_option maxHeartbeats 1000000 in
theorem enc_3 (B : Nat) (v : Value) (xs : List UInt8) (s : List UInt8) (hs : s.length ≤ 1099511627776) (c : Nat) (p : Option Addr) (w : World) (hT : Tens w) (hO : Out B v xs w) (hlen : xs.length + (1 + (Lib.itoa s.length).length + 2 + s.length + 2) ≤ 1099511627776) :
    Calls Tryd.prog 38 #[.agg #[.int .i64 3, .string (bs s), .int .i64 0, .slice p 0 c], .func (.func 37) #[] #[.pointer (some ⟨B, 0, none⟩)]] w (Wr B w (xs ++ (36 :: (Lib.itoa s.length ++ 13 :: 10 :: (s ++ [13, 10]))))) := by
  have eg := enters_of Tryd.func37 (by kernel_rfl) rfl
  obtain ⟨S, hS⟩ : ∃ S, S = bs s := ⟨_, rfl⟩
  have hSz : S.size = s.length := by rw [hS]; exact bs_size s
  rw [← hS]
  have HS := Lib.hid hS
  clear hS
  have hf : Fits (s.length : Int) := ⟨by omega, by omega⟩
  obtain ⟨n, hn⟩ : ∃ n : Nat, n = s.length := ⟨_, rfl⟩
  rw [← hn] at hf hSz hlen ⊢
  have HNS := Lib.hid hn
  clear hn
  have HP : ∀ W, Below w.heap.size w W → _ := fun W hb => print_any n hf W (hT.on hb)
  have HPH := Lib.hid HP
  clear HP hf
  obtain ⟨N, hN⟩ : ∃ N, N = numText n := ⟨_, rfl⟩
  rw [← hN] at HPH
  have HN := Lib.hid (show N = bs (Lib.itoa n) from hN)
  clear hN
  have hbl := hO.lt
  go_enter Tryd.func38, Tryd.ntmps38
  go_wp2_with fail
  refine (HPH.out _ (bA (Below.refl _ _) _)).mono ?_
  rintro e w1 ⟨rfl, hb1⟩
  go_wp2_with fail
  have hb2 : Below w.heap.size w w1 := bT (bA (Below.refl _ _) _) hb1
  have hbox : w1.heap[w.heap.size]? = some (.cells #[.int .i64 3, .string S, .int .i64 0, .slice p 0 c] 26 (0, 0)) := (hb1.block _ (by simp)).trans (heap_alloc_new w _)
  have hboxl := (Array.getElem?_eq_some_iff.1 hbox).1
  refine (line2 (hO.below (bA hb2 _)) _ [36] (Lib.itoa n) _ _ (heap_alloc_new w1 _) rfl HN.out (by simp; omega)).mono ?_
  rintro e w2 ⟨rfl, v1, hO1, hW1⟩
  have hbox1 := (Below.heap_alloc w1 (.cells #[.string ⟨#[36]⟩, .string N] 9) _ hboxl).trans hbox
  have hbox2 := (hW1.block w.heap.size (by simp; omega) (by omega) (.inr (noBytes_of hbox1 (by decide)))).trans hbox1
  have c1 : w2.cell? ⟨w.heap.size, 1, none⟩ = some (.string S) := by rw [Lib.cell_of_heap hbox2]; rfl
  clear hbox hbox1 hbox2
  have HO1 := Lib.hid hO1
  have HW1 := Lib.hid hW1
  clear hO1 hW1
  go_wp2_with fail
  refine (line1 (HO1.out.below (bA (Below.refl _ _) _)) _ s _ (heap_alloc_new w2 _) HS.out (by simp; have := HNS.out; omega)).mono ?_
  rintro e w3 ⟨rfl, v2, hO2, hW2⟩
  have e1 : (xs ++ ([36] ++ (Lib.itoa n ++ [13, 10]))) ++ (s ++ [13, 10]) = xs ++ (36 :: (Lib.itoa n ++ 13 :: 10 :: (s ++ [13, 10]))) := by simp
  rw [e1] at hO2
  have HF := Lib.hid (wr_mk (((Wrote.of_below (bA hb2 _)).trans HW1.out).below (bA (Below.refl _ _) _)) hO2 hW2)
  clear hO2 hW2 c1 e1
  go_wp2
  go_end0
  exact HF.out

end Go.Proofs.YtcikelcecfapcaaDoor

namespace Go.Proofs.YtcikelcecfapcaaDoor
open Go.RowKit Rp

theorem encL_append : ∀ (a b : List Rep), encL (a ++ b) = encL a ++ encL b
  | [], b => by simp [encL]
  | r :: rs, b => by simp [encL, encL_append rs b]
theorem encL_next (l : List Rep) (j : Nat) (h : j < l.length) : encL (l.take (j + 1)) = encL (l.take j) ++ enc l[j] := by
  rw [List.take_succ_eq_append_getElem h, encL_append]
  simp [encL]
theorem encL_le (l : List Rep) (j : Nat) (h : j < l.length) : (encL (l.take j)).length + (enc l[j]).length ≤ (encL l).length := by
  have h1 : encL l = encL (l.take (j + 1)) ++ encL (l.drop (j + 1)) := by rw [← encL_append, List.take_append_drop]
  rw [h1, encL_next l j h, List.length_append, List.length_append]
  omega

/-- What encode does of a reply. -/
def EncAt (r : Rep) : Prop := ∀ (d : Nat) (p : Option Addr) (c : Nat) (w0 w : World) (B : Nat) (v : Value) (xs : List UInt8), RepIn w0 r p c → Below w0.heap.size w0 w → w0.heap.size ≤ B → Tens w0 → right d r = true → Out B v xs w → xs.length + (enc r).length ≤ 1099511627776 →
    Calls Tryd.prog 38 #[.agg (repCs r p c), .func (.func 37) #[] #[.pointer (some ⟨B, 0, none⟩)]] w (Wr B w (xs ++ enc r))

theorem Wrote.since {B : Nat} {w0 w w1 : World} (h0 : Below w0.heap.size w0 w) (hB : w0.heap.size ≤ B) (hBl : B < w.heap.size) (h : Wrote B w w1) : Below w0.heap.size w0 w1 := h0.trans ((h.ahead hBl).mono hB)

set_option maxRecDepth 20000 in
set_option maxHeartbeats 2000000 in
theorem enc_5 (l : List Rep) (ih : ∀ x ∈ l, EncAt x) (d : Nat) (p : Option Addr) (c : Nat) (w0 w : World) (B : Nat) (v : Value) (xs : List UInt8) (h : RepIn w0 (.mk 5 [] 0 l) p c) (h0 : Below w0.heap.size w0 w) (hB : w0.heap.size ≤ B) (hT : Tens w0) (hr : rightL d l = true) (hO : Out B v xs w) (hlen : xs.length + (1 + (Lib.itoa l.length).length + 2 + (encL l).length) ≤ 1099511627776) :
    Calls Tryd.prog 38 #[.agg #[.int .i64 5, .string (bs []), .int .i64 0, .slice p l.length c], .func (.func 37) #[] #[.pointer (some ⟨B, 0, none⟩)]] w (Wr B w (xs ++ (42 :: (Lib.itoa l.length ++ 13 :: 10 :: encL l)))) := by
  have eg := enters_of Tryd.func37 (by kernel_rfl) rfl
  have hl63 : l.length ≤ 9223372036854775807 := by
    obtain ⟨_, _, _, h1, h2, _⟩ := h.parts
    unfold maxLen at h2; omega
  have hbl := hO.lt
  have H := Lib.hid h
  have HR := Lib.hid hr
  have IH := Lib.hid ih
  clear h hr ih
  obtain ⟨n, hn⟩ : ∃ n : Nat, n = l.length := ⟨_, rfl⟩
  rw [← hn] at hl63 hlen ⊢
  have HNL := Lib.hid hn
  clear hn
  have hf : Fits (n : Int) := ⟨by omega, by omega⟩
  have HP : ∀ W, Below w.heap.size w W → _ := fun W hb => print_any n hf W ((hT.on h0).on hb)
  have HPH := Lib.hid HP
  clear HP hf
  obtain ⟨N, hN⟩ : ∃ N, N = numText n := ⟨_, rfl⟩
  rw [← hN] at HPH
  have HN := Lib.hid (show N = bs (Lib.itoa n) from hN)
  clear hN
  go_enter Tryd.func38, Tryd.ntmps38
  go_wp2_with fail
  refine (HPH.out _ (bA (Below.refl _ _) _)).mono ?_
  rintro e w1 ⟨rfl, hb1⟩
  go_wp2_with fail
  have hb2 : Below w.heap.size w w1 := bT (bA (Below.refl _ _) _) hb1
  have hbox : w1.heap[w.heap.size]? = some (.cells #[.int .i64 5, .string (bs []), .int .i64 0, .slice p n c] 26 (0, 0)) := (hb1.block _ (by simp)).trans (heap_alloc_new w _)
  have hboxl := (Array.getElem?_eq_some_iff.1 hbox).1
  refine (line2 (hO.below (bA hb2 _)) _ [42] (Lib.itoa n) _ _ (heap_alloc_new w1 _) rfl HN.out (by simp; omega)).mono ?_
  rintro e w2 ⟨rfl, v1, hO1, hW1⟩
  have hbox1 := (Below.heap_alloc w1 (.cells #[.string ⟨#[42]⟩, .string N] 9) _ hboxl).trans hbox
  have hbox2 := (hW1.block w.heap.size (by simp; omega) (by omega) (.inr (noBytes_of hbox1 (by decide)))).trans hbox1
  have c3 : w2.cell? ⟨w.heap.size, 3, none⟩ = some (.slice p n c) := by rw [Lib.cell_of_heap hbox2]; rfl
  clear hbox hbox1 hbox2
  obtain ⟨X1, hX1⟩ : ∃ X1, X1 = xs ++ ([42] ++ (Lib.itoa n ++ [13, 10])) := ⟨_, rfl⟩
  rw [← hX1] at hO1
  have hX1l : X1.length + (encL l).length ≤ 1099511627776 := by rw [hX1]; simp; omega
  have HX1 := Lib.hid hX1
  have HW := Lib.hid ((Wrote.of_below (bA hb2 _)).trans hW1)
  clear hX1 hW1 hb2 hb1 hbl
  go_wp2
  go_loopw [61] (fun i wr => ∃ (j : Nat) (u : Value) (X : List UInt8), j ≤ n ∧ i = .int .i64 j ∧ Hid (X = X1 ++ encL (l.take j)) ∧ Out B u X wr ∧ Wrote B w wr) (fun i _ => n - (intOf i).toNat)
  case atStart => exact ⟨0, v1, X1, Nat.zero_le _, rfl, Lib.hid (by simp [encL]), hO1, HW.out⟩
  case round =>
    clear c3 hO1
    obtain ⟨j, u, X, hj, rfl, HX, hO2, hW⟩ := hrel
    by_cases hjl : j < n
    · have hd1 : decide ((j : Int) < (n : Int)) = true := decide_eq_true (by omega)
      have hja : j < l.length := by have := HNL.out; omega
      have hle := encL_le l j hja
      have hXl : X.length = X1.length + (encL (l.take j)).length := by rw [HX.out, List.length_append]
      have HNX := Lib.hid (encL_next l j hja)
      have hsin := Wrote.since h0 hB (hO.lt) hW
      obtain ⟨b, o, q, e, rfl, hc, hi⟩ := H.out.kid j hja
      obtain ⟨e0, e1, e2, e3⟩ := hc.below hsin
      have hcall : ∀ W, Below wr.heap.size wr W → _ := fun W hb => IH.out l[j] (List.getElem_mem hja) d q e w0 W B u X hi (hsin.trans (hb.mono hsin.size)) hB hT (rightL_mem HR.out _ (List.getElem_mem hja)) (hO2.below hb) (by omega)
      clear hi hc hle hXl
      generalize l[j] = x at *
      unfold repCs at hcall
      generalize enc x = ex at *
      have HCL := Lib.hid hcall
      clear hcall hsin hja hO2
      go_wp2_with fail
      refine (HCL.out _ (bA (Below.refl _ _) _)).mono ?_
      rintro e' w3 ⟨rfl, u', hO3, hW3⟩
      have HO3 := Lib.hid hO3
      have HW3 := Lib.hid (hW.trans ((Wrote.of_below (bA (Below.refl _ _) _)).trans hW3))
      clear hO3 hW3 e0 e1 e2 e3
      go_wp2
      go_roundw
      case rel => exact ⟨j + 1, u', X ++ ex, by omega, by go_num, Lib.hid (by rw [HNX.out, HX.out, List.append_assoc]), HO3.out, HW3.out⟩
      case measure => simp [intOf]; omega
    · have hd1 : decide ((j : Int) < (n : Int)) = false := decide_eq_false (by omega)
      have hE : X = xs ++ (42 :: (Lib.itoa n ++ 13 :: 10 :: encL l)) := by
        rw [HX.out, HX1.out, List.take_of_length_le (by have := HNL.out; omega)]
        simp
      rw [hE] at hO2
      have HO2 := Lib.hid hO2
      clear hE hO2
      go_wp2
      go_end0
      exact ⟨rfl, _, HO2.out, hW⟩

/-- resp.encode. -/
theorem enc_any (r : Rep) : EncAt r := by
  refine Rep.ind (p := EncAt) ?_ r
  intro k s n l ih d p c w0 w B v xs h h0 hB hT hr hO hlen
  unfold repCs
  simp only [Rep.kind, Rep.str, Rep.num, Rep.kids]
  obtain ⟨hk, hn, hs, hl, hc, hlast⟩ := h.parts
  simp only [right] at hr
  by_cases k0 : k = 0
  · subst k0
    simp at hr
    obtain ⟨⟨rfl, rfl⟩, hcm⟩ := hr
    simp only [enc, if_true, List.length_cons, List.length_append, List.length_nil] at hlen ⊢
    exact enc_0 B v xs s c p w hO (by omega)
  by_cases k1 : k = 1
  · subst k1
    simp at hr
    obtain ⟨⟨rfl, rfl⟩, hcm⟩ := hr
    simp [enc] at hlen ⊢
    exact enc_1 B v xs s c p w hO (by omega)
  by_cases k2 : k = 2
  · subst k2
    simp at hr
    obtain ⟨rfl, rfl⟩ := hr
    simp [enc] at hlen ⊢
    exact enc_2 B v xs n hn c p w (hT.on h0) hO (by omega)
  by_cases k3 : k = 3
  · subst k3
    simp at hr
    obtain ⟨rfl, rfl⟩ := hr
    simp [enc] at hlen
    have e : enc (.mk 3 s 0 []) = 36 :: (Lib.itoa s.length ++ 13 :: 10 :: (s ++ [13, 10])) := by simp [enc]
    rw [e]
    exact enc_3 B v xs s (by omega) c p w (hT.on h0) hO (by omega)
  by_cases k4 : k = 4
  · subst k4
    simp at hr
    obtain ⟨⟨rfl, rfl⟩, rfl⟩ := hr
    simp [enc] at hlen ⊢
    exact enc_4 B v xs c p w hO (by omega)
  by_cases k5 : k = 5
  · subst k5
    simp at hr
    obtain ⟨⟨rfl, rfl⟩, hr⟩ := hr
    cases d with
    | zero => simp at hr
    | succ d =>
      simp [enc] at hlen
      have e : enc (.mk 5 [] 0 l) = 42 :: (Lib.itoa l.length ++ 13 :: 10 :: encL l) := by simp [enc]
      rw [e]
      exact enc_5 l ih d p c w0 w B v xs h h0 hB hT hr hO (by omega)
  · simp [k0, k1, k2, k3, k4, k5] at hr
end Go.Proofs.YtcikelcecfapcaaDoor

namespace Go.Proofs.YtcikelcecfapcaaDoor
open Go.RowKit Rp

/-- The encodings of those that are right. -/
def written : List Rep → List UInt8
  | [] => []
  | r :: rs => (if right 4 r = true then enc r else []) ++ written rs
theorem written_append : ∀ (a b : List Rep), written (a ++ b) = written a ++ written b
  | [], b => by simp [written]
  | r :: rs, b => by simp [written, written_append rs b]
theorem written_next (l : List Rep) (j : Nat) (h : j < l.length) : written (l.take (j + 1)) = written (l.take j) ++ (if right 4 l[j] = true then enc l[j] else []) := by
  rw [List.take_succ_eq_append_getElem h, written_append]
  simp [written]
theorem written_le (l : List Rep) (j : Nat) (h : j < l.length) (hr : right 4 l[j] = true) : (written (l.take j)).length + (enc l[j]).length ≤ (written l).length := by
  have h1 : written l = written (l.take (j + 1)) ++ written (l.drop (j + 1)) := by rw [← written_append, List.take_append_drop]
  rw [h1, written_next l j h, if_pos hr, List.length_append, List.length_append]
  omega

/-- A slice's replies. -/
def SliceIn (w : World) (l : List Rep) (p : Option Addr) : Prop := l = [] ∨ ∃ b o, p = some ⟨b, o, none⟩ ∧ RowIn w l b o
theorem SliceIn.at_ {w : World} {l : List Rep} {p : Option Addr} (h : SliceIn w l p) (j : Nat) (hj : j < l.length) : ∃ b o q d, p = some ⟨b, o, none⟩ ∧ CellsAt w b (o + j * 4) l[j] q d ∧ RepIn w l[j] q d := by
  rcases h with rfl | ⟨b, o, hp, hr⟩
  · simp at hj
  · obtain ⟨q, d, h1, h2⟩ := row_at hr j hj
    exact ⟨b, o, q, d, hp, h1, h2⟩

theorem row_mono {w : World} {B B' : Nat} {e : TypeId} {size : Nat} {v : Value} {n : Nat} {xs : List Value} (h : w.ownsRow B e size v n xs) (hb : B' ≤ B) : w.ownsRow B' e size v n xs := by
  refine ⟨h.1, h.2.imp id ?_⟩
  rintro ⟨g, cap, cur, hv, hg, r⟩
  exact ⟨g, cap, cur, hv, Nat.le_trans hb hg, r⟩

/-- Bytes in new memory. -/
def Fresh (w : World) (ys : List UInt8) (e : Ending) (w' : World) : Prop := ∃ v', e = .returned v' ∧ w'.ownsRow w.heap.size 5 1 v' ys.length (sCells ys) ∧ Below w.heap.size w w'

set_option maxRecDepth 20000 in
set_option maxHeartbeats 2000000 in
theorem write_any (l : List Rep) (p : Option Addr) (c : Nat) (w : World) (h : SliceIn w l p) (hs : ShortL l) (hT : Tens w) (hl : l.length ≤ 1099511627776) (hlen : (written l).length ≤ 1099511627776) :
    Calls Tryd.prog 18 #[.slice p l.length c] w (Fresh w (written l)) := by
  have eg := enters_of Tryd.func37 (by kernel_rfl) rfl
  have H := Lib.hid h
  have HS := Lib.hid hs
  clear h hs
  obtain ⟨n, hn⟩ : ∃ n : Nat, n = l.length := ⟨_, rfl⟩
  rw [← hn] at hl ⊢
  have HNL := Lib.hid hn
  clear hn
  have hO0 : Out w.heap.size (.slice none 0 0) [] (w.alloc (.cells #[.slice none 0 0] 22)) := ⟨heap_alloc_new w _, World.ownsRow_nil _ _ _ _⟩
  go_enter Tryd.func18, Tryd.ntmps18
  go_wp2
  go_loopw [6, 10] (fun _ i wr => ∃ (j : Nat) (u : Value) (X : List UInt8), j ≤ n ∧ i = .int .i64 j ∧ Hid (X = written (l.take j)) ∧ Out w.heap.size u X wr ∧ Wrote w.heap.size (w.alloc (.cells #[.slice none 0 0] 22)) wr) (fun _ i _ => n - (intOf i).toNat)
  case atStart => exact ⟨0, _, [], Nat.zero_le _, rfl, Lib.hid (by simp [written]), hO0, Wrote.refl _ _⟩
  case round =>
    clear hO0
    obtain ⟨j, u, X, hj, rfl, HX, hO2, hW⟩ := hrel
    have hsin : Below w.heap.size w wr := ((Below.refl _ w).alloc (Nat.le_refl _) _).trans (hW.ahead (by simp))
    by_cases hjl : j < n
    · have hd1 : decide ((j : Int) < (n : Int)) = true := decide_eq_true (by omega)
      have hja : j < l.length := by have := HNL.out; omega
      have HNX := Lib.hid (written_next l j hja)
      obtain ⟨b, o, q, e, rfl, hc, hi⟩ := H.out.at_ j hja
      obtain ⟨e0, e1, e2, e3⟩ := hc.below hsin
      have hR : ∀ W, Below wr.heap.size wr W → _ := fun W hb => right_any l[j] q e W (RepIn.below (hsin.trans (hb.mono hsin.size)) _ hi) (short_mem HS.out _ (List.getElem_mem hja))
      cases hrt : right 4 l[j]
      · rw [hrt] at hR
        rw [hrt, if_neg (by decide)] at HNX
        clear hi hc hrt
        generalize l[j] = x at *
        unfold repCs at hR
        have HR := Lib.hid hR
        clear hR hja
        go_wp2_with fail
        refine (HR.out _ (bA (Below.refl _ _) _)).mono ?_
        rintro e' w3 ⟨rfl, hb3⟩
        have hb4 := bT (bA (Below.refl wr.heap.size wr) _) hb3
        clear e0 e1 e2 e3
        go_wp2
        go_roundw
        case rel => exact ⟨j + 1, u, X, by omega, by go_num, Lib.hid (by rw [HNX.out, HX.out, List.append_nil]), hO2.below hb4, hW.below hb4⟩
        case measure => simp [intOf]; omega
      · have hle := written_le l j hja hrt
        have hXl : X.length = (written (l.take j)).length := by rw [HX.out]
        have hE : ∀ W, Below wr.heap.size wr W → _ := fun W hb => enc_any l[j] 4 q e w W w.heap.size u X hi (hsin.trans (hb.mono hsin.size)) (Nat.le_refl _) hT hrt (hO2.below hb) (by omega)
        rw [hrt] at hR
        rw [hrt, if_pos rfl] at HNX
        clear hi hc hrt hle hXl hO2
        generalize l[j] = x at *
        unfold repCs at hR hE
        generalize enc x = ex at *
        have HR := Lib.hid hR
        have HE := Lib.hid hE
        clear hR hE hja
        have cbox : ∀ W, Below (wr.alloc (.cells #[.int .i64 x.kind, .string (bs x.str), .int .i64 x.num, .slice q x.kids.length e] 26)).heap.size (wr.alloc (.cells #[.int .i64 x.kind, .string (bs x.str), .int .i64 x.num, .slice q x.kids.length e] 26)) W → W.heap[wr.heap.size]? = some (.cells #[.int .i64 x.kind, .string (bs x.str), .int .i64 x.num, .slice q x.kids.length e] 26 (0, 0)) := fun W hb => (hb.block _ (by simp)).trans (heap_alloc_new wr _)
        have CB := Lib.hid cbox
        clear cbox
        go_wp2_with fail
        refine (HR.out _ (bA (Below.refl _ _) _)).mono ?_
        rintro e' w3 ⟨rfl, hb3⟩
        have hb4 := bT (bA (Below.refl wr.heap.size wr) _) hb3
        have hbx := CB.out w3 hb3
        have b0 : w3.cell? ⟨wr.heap.size, 0, none⟩ = some (.int .i64 x.kind) := by rw [Lib.cell_of_heap hbx]; rfl
        have b1 : w3.cell? ⟨wr.heap.size, 1, none⟩ = some (.string (bs x.str)) := by rw [Lib.cell_of_heap hbx]; rfl
        have b2 : w3.cell? ⟨wr.heap.size, 2, none⟩ = some (.int .i64 x.num) := by rw [Lib.cell_of_heap hbx]; rfl
        have b3 : w3.cell? ⟨wr.heap.size, 3, none⟩ = some (.slice q x.kids.length e) := by rw [Lib.cell_of_heap hbx]; rfl
        clear hbx e0 e1 e2 e3
        go_wp2_with fail
        refine (HE.out _ hb4).mono ?_
        rintro e' w5 ⟨rfl, u', hO5, hW5⟩
        have HO5 := Lib.hid hO5
        have HW5 := Lib.hid ((hW.below hb4).trans hW5)
        clear hO5 hW5 b0 b1 b2 b3
        go_wp2
        go_roundw
        case rel => exact ⟨j + 1, u', X ++ ex, by omega, by go_num, Lib.hid (by rw [HNX.out, HX.out]), HO5.out, HW5.out⟩
        case measure => simp [intOf]; omega
    · have hd1 : decide ((j : Int) < (n : Int)) = false := decide_eq_false (by omega)
      have hE : X = written l := by rw [HX.out, List.take_of_length_le (by have := HNL.out; omega)]
      have cB : wr.cell? ⟨w.heap.size, 0, none⟩ = some u := by rw [Lib.cell_of_heap hO2.var]; rfl
      have hrow := row_mono hO2.row (Nat.le_succ w.heap.size)
      obtain ⟨ua, um, uc, rfl⟩ := row_slice hrow
      rw [hE] at hrow
      have HRW := Lib.hid hrow
      clear hE hrow hO2
      go_wp2
      go_ret
      exact ⟨_, rfl, HRW.out, hsin⟩
end Go.Proofs.YtcikelcecfapcaaDoor
