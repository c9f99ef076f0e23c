/-
  Slices of bytes, and what bytes.IndexAny looks for in them. What bytes.IndexAny answers of CR LF: the first place of either. bytes.IndexAny of CR LF in more than eight bytes. bytes.IndexAny of CR LF in at most eight bytes.
-/
import Derived.Test.YtcikelcecfapcaaDoorRespAny
import Derived.Test.YtcikelcecfapcaaDoorShelfB
import Derived.Lib.IndexEntry
import Derived.Lib.IndexLaws
import Derived.Deep.WholeRow
namespace Go.Proofs.YtcikelcecfapcaaDoor
open Go.RowKit Rp

/-- A slice of the bytes l: its address p, its capacity c. -/
structure Bin (w : World) (p : Option Addr) (c : Nat) (l : List UInt8) : Prop where
  nil : p = none → l = [] ∧ c = 0
  cap : l.length ≤ c
  max : c ≤ maxLen
  at_ : l ≠ [] → ∃ b o, p = some ⟨b, o, none⟩ ∧ ∀ (j : Nat) (h : j < l.length), w.cell? ⟨b, o + j, none⟩ = some (.int .u8 (l[j].toNat : Nat))

theorem Bin.below {w w' : World} {p : Option Addr} {c : Nat} {l : List UInt8} (h : Bin w p c l) (hb : Below w.heap.size w w') : Bin w' p c l :=
  ⟨h.nil, h.cap, h.max, fun hl => by
    obtain ⟨b, o, hp, hc⟩ := h.at_ hl
    exact ⟨b, o, hp, fun j hj => (hb.cell (p := ⟨b, o + j, none⟩) (World.block_lt_of_cell? w _ (hc j hj))).trans (hc j hj)⟩⟩

theorem bs_getB (l : List UInt8) (j : Nat) (hj : j < l.length) : (bs l).get! j = l[j] := by
  rw [get_at (bs l) j (by rw [bs_size]; exact hj)]; rfl

set_option maxHeartbeats 400000 in
theorem use_set (n : Nat) (w : World) : Calls Tryd.prog 78 #[.int .i64 n] w fun e w' => e = .returned (.bool (decide ((8 : Int) < n))) ∧ w = w' := by
  go_enter Tryd.func78, Tryd.ntmps78
  go_wp2
  go_ret
  exact ⟨rfl, rfl⟩

/-- How wide a rune beyond ASCII is written. -/
theorem decN_width (n b0 b1 b2 b3 : Nat) (h : 128 ≤ b0) (h0 : b0 < 256) : (Lib.decodeN n b0 b1 b2 b3).1 ≠ 65533 → ((Lib.decodeN n b0 b1 b2 b3).2 = 2 ∧ (Lib.decodeN n b0 b1 b2 b3).1 < 2048) ∨ ((Lib.decodeN n b0 b1 b2 b3).2 = 3 ∧ 2048 ≤ (Lib.decodeN n b0 b1 b2 b3).1 ∧ (Lib.decodeN n b0 b1 b2 b3).1 < 65536) ∨ ((Lib.decodeN n b0 b1 b2 b3).2 = 4 ∧ 65536 ≤ (Lib.decodeN n b0 b1 b2 b3).1) := by
  unfold Lib.decodeN
  repeat' split
  all_goals
    intro hne
    simp only at hne ⊢
    first
      | (exfalso; omega)
      | (left; refine ⟨trivial, ?_⟩; omega)
      | (right; left; refine ⟨trivial, ?_, ?_⟩ <;> omega)
      | (right; right; refine ⟨trivial, ?_⟩; omega)
      | (left; refine ⟨rfl, ?_⟩; omega)
      | (right; left; refine ⟨rfl, ?_, ?_⟩ <;> omega)
      | (right; right; refine ⟨rfl, ?_⟩; omega)
theorem enc_width (c : Nat) (h : 128 ≤ c) (hv : c < 55296 ∨ (57343 < c ∧ c ≤ 1114111)) : (c < 2048 → ∃ a b : UInt8, Utf8.encode c = ⟨#[a, b]⟩ ∧ 128 ≤ b.toNat) ∧ (2048 ≤ c → c < 65536 → (Utf8.encode c).size = 3) ∧ (65536 ≤ c → (Utf8.encode c).size = 4) := by
  have hval : Utf8.valid (c : Int) = true := by
    unfold Utf8.valid
    simp only [Bool.or_eq_true, Bool.and_eq_true, decide_eq_true_eq]
    omega
  have e : ((c : Int)).toNat = c := by omega
  unfold Utf8.encode
  simp only [hval, if_true, e]
  rw [if_neg (by omega)]
  refine ⟨fun h2 => ?_, fun h2 h3 => ?_, fun h3 => ?_⟩
  · rw [if_pos h2]
    exact ⟨_, _, rfl, u8_hi _ (by omega) (by omega)⟩
  · rw [if_neg (by omega), if_pos h3]; rfl
  · rw [if_neg (by omega), if_neg (by omega)]; rfl

/-- The runes of a rest of bytes. -/
theorem dec_rest (l : List UInt8) (i : Nat) (h : i < l.length) (hx : 128 ≤ l[i].toNat) : ∃ R K : Nat, Lib.decodeGo (bs (l.drop i)) = (R, K) ∧ 128 ≤ R ∧ (R < 55296 ∨ (57343 < R ∧ R ≤ 1114111)) ∧ 1 ≤ K ∧ i + K ≤ l.length ∧ (∀ j (hj : i + j < l.length), j < K → 128 ≤ l[i + j].toNat) ∧
    (R ≠ 65533 → (K = 2 ∧ R < 2048) ∨ (K = 3 ∧ 2048 ≤ R ∧ R < 65536) ∨ (K = 4 ∧ 65536 ≤ R)) := by
  have hlen : (l.drop i).length = l.length - i := List.length_drop
  have hs : 0 < (bs (l.drop i)).size := by rw [bs_size]; omega
  have h0 : (bs (l.drop i))[0]'hs = l[i] := by
    show (l.drop i)[0]'(by omega) = l[i]
    simp
  have hd : Lib.decodeGo (bs (l.drop i)) = Utf8.decode (bs (l.drop i)) 0 := by
    simp only [Lib.decodeGo]
    rw [if_neg (by omega)]
  have H := dec_hi (bs (l.drop i)) 0 hs (by rw [h0]; exact hx)
  have HW := decN_width ((bs (l.drop i)).size - 0) ((bs (l.drop i)).get! 0).toNat ((bs (l.drop i)).get! (0 + 1)).toNat ((bs (l.drop i)).get! (0 + 2)).toNat ((bs (l.drop i)).get! (0 + 3)).toNat (by rw [get_at _ 0 hs, h0]; exact hx) (UInt8.toNat_lt _)
  rw [← Lib.decode_at] at HW
  have HK := Lib.width_pos (bs (l.drop i)) 0
  refine ⟨_, _, hd, H.1, H.2.1, HK, (by have h5 := H.2.2.1; rw [bs_size, hlen, Nat.zero_add] at h5; exact Nat.add_le_of_le_sub' (by omega) h5), fun j hj hjk => ?_, HW⟩
  have := H.2.2.2 j (by rw [bs_size]; omega) hjk
  have e : (bs (l.drop i))[0 + j]'(by rw [bs_size]; omega) = l[i + j] := by
    show (l.drop i)[0 + j]'(by omega) = l[i + j]
    simp
  rw [e] at this
  exact this

end Go.Proofs.YtcikelcecfapcaaDoor

namespace Go.Proofs.YtcikelcecfapcaaDoor
open Go.RowKit Rp

/-- k is the first place of a CR or an LF in l, or its length. -/
structure First (l : List UInt8) (k : Nat) : Prop where
  le : k ≤ l.length
  pre : ∀ (i : Nat) (h : i < l.length), i < k → l[i] ≠ 13 ∧ l[i] ≠ 10
  at_ : ∀ (h : k < l.length), l[k] = 13 ∨ l[k] = 10

/-- What is answered. -/
def firstV (l : List UInt8) (k : Nat) : Int := if k < l.length then (k : Int) else -1

/-- What the tables of package utf8, and MaxLen, hold. -/
structure Runes (w : World) : Prop where
  tabs : Lib.Utf8Tabs 1 2 w
  most : ∃ m : Int, w.cell? ⟨0, 0, none⟩ = some (.int .i64 m)
theorem Runes.on {w w' : World} (h : Runes w) (hb : Below w.heap.size w w') : Runes w' :=
  ⟨Utf8Tabs_below h.tabs hb, by
    obtain ⟨m, hm⟩ := h.most
    exact ⟨m, (hb.cell (World.block_lt_of_cell? w _ hm)).trans hm⟩⟩

theorem First.ge {l : List UInt8} {k i : Nat} (h : First l k) (hi : i < l.length) (hx : l[i] ≠ 13 ∧ l[i] ≠ 10) (hik : i ≤ k) : i + 1 ≤ k := by
  rcases Nat.lt_or_ge i k with h1 | h1
  · exact h1
  · obtain rfl : i = k := by omega
    rcases h.at_ hi with h2 | h2
    · exact absurd h2 hx.1
    · exact absurd h2 hx.2
theorem First.is {l : List UInt8} {k i : Nat} (h : First l k) (hi : i < l.length) (hx : l[i] = 13 ∨ l[i] = 10) (hik : i ≤ k) : firstV l k = (i : Int) := by
  have : i = k := by
    rcases Nat.lt_or_ge i k with h1 | h1
    · have := h.pre i hi h1
      rcases hx with hx | hx
      · exact absurd hx this.1
      · exact absurd hx this.2
    · omega
  subst this
  unfold firstV
  rw [if_pos hi]
theorem First.skip {l : List UInt8} {k i K : Nat} (h : First l k) (hK : i + K ≤ l.length) (ha : ∀ j (hj : i + j < l.length), j < K → 128 ≤ l[i + j].toNat) (hik : i ≤ k) : i + K ≤ k := by
  induction K with
  | zero => exact hik
  | succ K ih =>
    have h1 := ih (by omega) (fun j hj hjk => ha j hj (by omega))
    have hx := ha K (by omega) (by omega)
    show i + K + 1 ≤ k
    exact h.ge (by omega) ⟨fun e => by rw [e] at hx; simp at hx, fun e => by rw [e] at hx; simp at hx⟩ h1
theorem First.none {l : List UInt8} {k : Nat} (_ : First l k) (hk : l.length ≤ k) : firstV l k = -1 := by
  unfold firstV
  rw [if_neg (by omega)]

theorem two_index (x : UInt8) : (x = 13 → Lib.indexByte [13, 10] ((((x.toNat : Nat) : Int)).toNat.toUInt8) = 0) ∧ (x = 10 → Lib.indexByte [13, 10] ((((x.toNat : Nat) : Int)).toNat.toUInt8) = 1) ∧ (x ≠ 13 ∧ x ≠ 10 → Lib.indexByte [13, 10] ((((x.toNat : Nat) : Int)).toNat.toUInt8) = -1) := by
  have e : ((((x.toNat : Nat) : Int)).toNat.toUInt8) = x := by simp
  rw [e]
  refine ⟨fun h => by rw [h]; rfl, fun h => by rw [h]; rfl, fun h => ?_⟩
  rw [Lib.indexByte, Lib.indexByte, Lib.indexByte]
  have e1 : ((13 : UInt8) == x) = false := by rw [beq_eq_false_iff_ne]; exact fun h1 => h.1 h1.symm
  have e2 : ((10 : UInt8) == x) = false := by rw [beq_eq_false_iff_ne]; exact fun h1 => h.2 h1.symm
  rw [e1, e2]; rfl

/-- internal/bytealg.IndexByteString, as the walk meets it. -/
theorem run_ibs (s : ByteArray) (c : Int) (w : World) : (callFunc 76 #[.string s, .int .u8 c]).run Tryd.prog w = .ok (.value (.int .i64 (Lib.indexByte s.data.toList c.toNat.toUInt8))) w := by
  rw [run_callFunc_extern Tryd.func76 (by kernel_rfl) (by kernel_rfl) (by kernel_rfl) (e := Extern.BytealgIndexByte.indexByte) (by kernel_rfl), Lib.run_indexByteString]
  rfl

set_option maxRecDepth 100000 in
set_option maxHeartbeats 2000000 in
/-- One byte. -/
theorem idx_one (x : UInt8) (k : Nat) (hF : First [x] k) (p : Option Addr) (c : Nat) (w : World) (hb : Bin w p c [x]) :
    Calls Tryd.prog 65 #[.slice p 1 c, .string ⟨#[13, 10]⟩] w fun e w' => e = .returned (.int .i64 (firstV [x] k)) ∧ Below w.heap.size w w' := by
  obtain ⟨b, o, rfl, hc⟩ := hb.at_ (by simp)
  have c0 := hc 0 (by simp)
  simp only [List.getElem_cons_zero, Nat.add_zero] at c0
  obtain ⟨t1, t2, t3⟩ := two_index x
  have hi := run_ibs ⟨#[13, 10]⟩ (x.toNat : Int)
  have hx256 : x.toNat < 256 := UInt8.toNat_lt x
  by_cases hx : x.toNat < 128
  · have hd : decide ((128 : Int) ≤ (x.toNat : Int)) = false := decide_eq_false (by omega)
    by_cases h13 : x = 13
    · rw [t1 h13] at hi
      have HV := Lib.hid (hF.is (i := 0) (by simp) (.inl h13) (Nat.zero_le _))
      clear t1 t2 t3 h13
      go_enter Tryd.func65, Tryd.ntmps65
      go_wp2
      go_ret
      exact ⟨by rw [HV.out]; rfl, Below.refl _ _⟩
    · by_cases h10 : x = 10
      · rw [t2 h10] at hi
        have HV := Lib.hid (hF.is (i := 0) (by simp) (.inr h10) (Nat.zero_le _))
        clear t1 t2 t3 h10 h13
        go_enter Tryd.func65, Tryd.ntmps65
        go_wp2
        go_ret
        exact ⟨by rw [HV.out]; rfl, Below.refl _ _⟩
      · rw [t3 ⟨h13, h10⟩] at hi
        have HV := Lib.hid (hF.none (hF.ge (i := 0) (by simp) ⟨h13, h10⟩ (Nat.zero_le _)))
        clear t1 t2 t3 h10 h13
        go_enter Tryd.func65, Tryd.ntmps65
        go_wp2
        go_ret
        exact ⟨by rw [HV.out]; rfl, Below.refl _ _⟩
  · have hd : decide ((128 : Int) ≤ (x.toNat : Int)) = true := decide_eq_true (by omega)
    have HV := Lib.hid (hF.none (hF.skip (i := 0) (K := 1) (by simp) (fun j hj hj1 => by obtain rfl : j = 0 := (by omega); simpa using hx) (Nat.zero_le _)))
    clear t1 t2 t3
    go_enter Tryd.func65, Tryd.ntmps65
    go_wp2_with fail
    go_loopg [5] 2 (fun g _ wx => ∃ i : Nat, i + g = 2 ∧ wx = w.iter ⟨#[13, 10]⟩ i)
    case atStart => exact ⟨0, rfl, rfl⟩
    case round =>
      obtain ⟨i, hig, rfl⟩ := hrel
      cases gk with
      | zero =>
        obtain rfl : i = 2 := by omega
        have hnx := run_next_end (P := Tryd.prog) w ⟨#[13, 10]⟩ 2
        go_wp2
        go_ret
        exact ⟨by rw [HV.out]; rfl, (Below.refl _ w).alloc (Nat.le_refl _) _⟩
      | succ g =>
        have hi : i < 2 := by omega
        obtain ⟨y, hy⟩ : ∃ y : UInt8, (⟨#[13, 10]⟩ : ByteArray)[i]'hi = y := ⟨_, rfl⟩
        have hy1 : y.toNat < 128 := by rw [← hy]; exact iter_two i hi
        have hnx := fun ty => run_next_ascii (P := Tryd.prog) w ⟨#[13, 10]⟩ i ty hi (by rw [hy]; exact hy1)
        rw [hy] at hnx
        have hne : ((y.toNat : Int) == 65533) = false := beq_eq_false_iff_ne.2 (by omega)
        clear hy
        go_wp2
        go_roundg g
        case measure => omega
        case rel => exact ⟨i + 1, by omega, rfl⟩
end Go.Proofs.YtcikelcecfapcaaDoor

namespace Go.Proofs.YtcikelcecfapcaaDoor
open Go.RowKit Rp

theorem info_setB : (Tryd.prog.info? 113).map (fun i => (i.zero, i.size)) = some (some (.agg (Array.replicate 256 (.bool false))), 256) := by kernel_rfl

theorem two_in (x : UInt8) : ([13, 10] : List UInt8).contains x = true ↔ (x = 13 ∨ x = 10) := by simp

set_option maxRecDepth 100000 in
set_option maxHeartbeats 4000000 in
/-- More than eight bytes. -/
theorem idx_long (l : List UInt8) (k : Nat) (hF : First l k) (h8 : 8 < l.length) (p : Option Addr) (c : Nat) (w : World) (hb : Bin w p c l) :
    Calls Tryd.prog 65 #[.slice p l.length c, .string ⟨#[13, 10]⟩] w fun e w' => e = .returned (.int .i64 (firstV l k)) ∧ Below w.heap.size w w' := by
  have hM := Tryd.bytes_makeASCIISet (zero_of_info info_setB).1 ⟨#[13, 10]⟩ w (by decide) (by
    intro j b hb
    match j, hb with
    | 0, hb => simp at hb; subst hb; decide
    | 1, hb => simp at hb; subst hb; decide)
  obtain ⟨b, o, rfl, hcells⟩ := hb.at_ (by intro e; rw [e] at h8; simp at h8)
  have hn1 : ((l.length : Int) == 1) = false := beq_eq_false_iff_ne.2 (by omega)
  have h8z : decide ((8 : Int) < (l.length : Int)) = true := decide_eq_true (by omega)
  obtain ⟨S, hS⟩ : ∃ S, Lib.setCells (⟨#[13, 10]⟩ : ByteArray).data.toList = S := ⟨_, rfl⟩
  rw [hS] at hM
  have hsz : S.size = 256 := by rw [← hS]; exact Lib.setCells_size _
  have hsc : (storeCells ⟨w.heap.size + 1, 0, none⟩ S.toList 0).run Tryd.prog ((w.alloc (.cells S 113)).alloc (.cells (Array.replicate 256 (.bool false)) 113)) = .ok () ((w.alloc (.cells S 113)).alloc (.cells S 113)) := by
    have := run_storeCells_new (P := Tryd.prog) (w.alloc (.cells S 113)) 113 (Array.replicate 256 (.bool false)) S (by rw [hsz]; exact (zero_of_info info_setB).2) (by rw [hsz, Array.size_replicate]) (by rw [← hS]; exact Lib.setCells_one _)
    simpa using this
  have HC : Hid (∀ x : UInt8, ((w.alloc (.cells S 113)).alloc (.cells S 113)).cell? ⟨w.heap.size + 1, x.toNat, none⟩ = some (.bool (([13, 10] : List UInt8).contains x))) := Lib.hid (fun x => by
    rw [World.cell?_alloc_at _ _ _ _ (by simp), ← hS, Lib.setCells_at])
  have hW : Below w.heap.size w ((w.alloc (.cells S 113)).alloc (.cells S 113)) := ((Below.refl _ _).alloc (Nat.le_refl _) _).alloc (by simp) _
  have HX := Lib.hid (fun (j : Nat) (h : j < l.length) => (hW.cell (p := ⟨b, o + j, none⟩) (World.block_lt_of_cell? w _ (hcells j h))).trans (hcells j h))
  have hlen : l.length ≤ maxLen := Nat.le_trans hb.cap hb.max
  unfold maxLen at hlen
  clear hcells hb hS
  go_enter Tryd.func65, Tryd.ntmps65
  go_wp2_with (first
    | (go_at_call 78; refine (use_set l.length _).mono ?_; rintro e w' ⟨rfl, rfl⟩; rw [h8z])
    | (go_at_call 79; refine hM.mono ?_; rintro e w' ⟨rfl, hw⟩; rw [hw]))
  have hz : Tryd.zeroCells113 = Array.replicate 256 (.bool false) := rfl
  simp only [hz, hsc, Result.andThen]
  rw [Oper.upon_skip]
  clear hz
  obtain ⟨W, hWd⟩ : ∃ W, ((w.alloc (.cells S 113)).alloc (.cells S 113)) = W := ⟨_, rfl⟩
  rw [hWd] at HC HX hW
  simp only [hWd]
  clear hM hsc hWd hsz hw
  go_wp2
  go_loopg [62, 9, 10] l.length (fun g s62 _ _ wx => ∃ i : Nat, i + g = l.length ∧ s62 = .int .i64 i ∧ wx = W ∧ Hid (i ≤ k))
  case atStart => exact ⟨0, by omega, rfl, rfl, Lib.hid (Nat.zero_le _)⟩
  case round =>
    obtain ⟨i, hig, rfl, rfl, hik⟩ := hrel
    cases gk with
    | zero =>
      obtain rfl : i = l.length := by omega
      have hiz : decide ((l.length : Int) < (l.length : Int)) = false := decide_eq_false (by omega)
      have HV := Lib.hid (hF.none hik.out)
      go_wp2
      go_ret
      exact ⟨by rw [HV.out]; rfl, hW⟩
    | succ g =>
      have hi : i < l.length := by omega
      have hiz : decide ((i : Int) < (l.length : Int)) = true := decide_eq_true (by omega)
      have hx := HX.out i hi
      have hcx := HC.out l[i]
      obtain ⟨x, hxd⟩ : ∃ x : UInt8, l[i] = x := ⟨_, rfl⟩
      rw [hxd] at hx hcx
      cases hin : ([13, 10] : List UInt8).contains x <;> rw [hin] at hcx
      · have HN := Lib.hid (hF.ge (i := i) hi ⟨fun e => by rw [hxd] at e; rw [e] at hin; simp at hin, fun e => by rw [hxd] at e; rw [e] at hin; simp at hin⟩ hik.out)
        clear hin hxd
        go_wp2_with (go_at_call 80; refine (Tryd.bytes_asciiSet_contains _ x _ _ hcx).mono ?_; rintro e w' ⟨rfl, hw⟩; rw [hw])
        go_roundg g
        case measure => omega
        case rel => exact ⟨i + 1, by omega, by first | rfl | simp, rfl, HN⟩
      · have HV := Lib.hid (hF.is (i := i) hi (by rw [hxd]; exact (two_in x).1 hin) hik.out)
        clear hin hxd
        go_wp2_with (go_at_call 80; refine (Tryd.bytes_asciiSet_contains _ x _ _ hcx).mono ?_; rintro e w' ⟨rfl, hw⟩; rw [hw])
        go_ret
        exact ⟨by rw [HV.out]; rfl, hW⟩
end Go.Proofs.YtcikelcecfapcaaDoor

namespace Go.Proofs.YtcikelcecfapcaaDoor
open Go.RowKit Rp

/-- internal/bytealg.IndexString: a text of three bytes or more does not lie in two. -/
theorem run_is (a b : ByteArray) (w : World) (m : Int) (hm : w.cell? ⟨0, 0, none⟩ = some (.int .i64 m)) (h2 : 2 ≤ b.size) (hb : (b.size : Int) ≤ m) (hl : a.size < b.size) (ha : a.size < 4294967281) : (callFunc 82 #[.string a, .string b]).run Tryd.prog w = .ok (.value (.int .i64 (-1))) w := by
  rw [run_callFunc_extern Tryd.func82 (by kernel_rfl) (by kernel_rfl) (by kernel_rfl) (e := Extern.BytealgIndex.index) (by kernel_rfl), Lib.run_indexString a b w 0 m (by kernel_rfl) hm h2 hb ha, Lib.index_long (by have := Lib.size_eq a; have := Lib.size_eq b; omega) (by intro e; have h1 := Lib.size_eq a; have h2 := Lib.size_eq b; rw [e] at h2; omega)]
  rfl

set_option maxRecDepth 100000 in
set_option maxHeartbeats 4000000 in
/-- At most eight bytes. -/
theorem idx_short (l : List UInt8) (k : Nat) (hF : First l k) (h8 : l.length ≤ 8) (h1 : l.length ≠ 1) (p : Option Addr) (c : Nat) (w : World) (hR : Runes w) (hb : Bin w p c l) :
    Calls Tryd.prog 65 #[.slice p l.length c, .string ⟨#[13, 10]⟩] w fun e w' => e = .returned (.int .i64 (firstV l k)) ∧ Below w.heap.size w w' := by
  have hn1 : ((l.length : Int) == 1) = false := beq_eq_false_iff_ne.2 (by omega)
  have h8z : decide ((8 : Int) < (l.length : Int)) = false := decide_eq_false (by omega)
  have hlc : l.length ≤ c := hb.cap
  have hcm : c ≤ maxLen := hb.max
  unfold maxLen at hcm
  have HX := Lib.hid hb.at_
  have HR := Lib.hid hR
  clear hb hR
  go_enter Tryd.func65, Tryd.ntmps65
  go_wp2_with (go_at_call 78; refine (use_set l.length _).mono ?_; rintro e w' ⟨rfl, rfl⟩; rw [h8z])
  go_loopg [12] l.length (fun g s12 wx => ∃ i : Nat, l.length ≤ i + g ∧ i ≤ l.length ∧ s12 = .int .i64 i ∧ Below w.heap.size w wx ∧ Hid (i ≤ k))
  case atStart => exact ⟨0, by omega, by omega, rfl, Below.refl _ _, Lib.hid (Nat.zero_le _)⟩
  case round =>
    obtain ⟨i, hig, hil, rfl, hbw, hik⟩ := hrel
    by_cases hi : i < l.length
    · obtain ⟨g, rfl⟩ : ∃ g', gk = g' + 1 := ⟨gk - 1, by omega⟩
      have hiz : decide ((i : Int) < (l.length : Int)) = true := decide_eq_true (by omega)
      obtain ⟨b, o, rfl, hcs⟩ := HX.out (by intro e; rw [e] at hi; simp at hi)
      have hx : wr.cell? ⟨b, o + i, none⟩ = some (.int .u8 (l[i].toNat : Nat)) := (hbw.cell (p := ⟨b, o + i, none⟩) (World.block_lt_of_cell? _ _ (hcs i hi))).trans (hcs i hi)
      obtain ⟨x, hxd⟩ : ∃ x : UInt8, l[i] = x := ⟨_, rfl⟩
      rw [hxd] at hx
      have hx256 : x.toNat < 256 := UInt8.toNat_lt x
      by_cases hx8 : x.toNat < 128
      · have hd : decide ((x.toNat : Int) < 128) = true := decide_eq_true (by omega)
        obtain ⟨t1, t2, t3⟩ := two_index x
        have hib := run_ibs ⟨#[13, 10]⟩ (x.toNat : Int)
        by_cases hin : x = 13 ∨ x = 10
        · have HV := Lib.hid (hF.is (i := i) hi (by rw [hxd]; exact hin) hik.out)
          rcases hin with h13 | h10
          · rw [t1 h13] at hib
            clear t1 t2 t3 h13 hxd hcs
            go_wp2
            go_ret
            exact ⟨by rw [HV.out]; rfl, hbw⟩
          · rw [t2 h10] at hib
            clear t1 t2 t3 h10 hxd hcs
            go_wp2
            go_ret
            exact ⟨by rw [HV.out]; rfl, hbw⟩
        · have hne : x ≠ 13 ∧ x ≠ 10 := ⟨fun e => hin (.inl e), fun e => hin (.inr e)⟩
          have HN := Lib.hid (hF.ge (i := i) hi (by rw [hxd]; exact hne) hik.out)
          rw [t3 hne] at hib
          clear t1 t2 t3 hne hin hxd hcs
          go_wp2
          go_roundg g
          case measure => omega
          case rel => exact ⟨i + 1, by omega, by omega, by first | rfl | simp, hbw, HN⟩
      · have hd : decide ((x.toNat : Int) < 128) = false := decide_eq_false (by omega)
        obtain ⟨R, K, hgo, r1, r2, k1, k2, ka, kw⟩ := dec_rest l i hi (by rw [hxd]; omega)
        have HN := Lib.hid (hF.skip (i := i) (K := K) k2 ka hik.out)
        have hdr := Tryd.utf8_DecodeRune (bs (l.drop i)) b (o + i) (c - i) wr (HR.out.on hbw).tabs (by
          intro j hj
          rw [bs_size, List.length_drop] at hj
          rw [bs_getB _ _ (by rw [List.length_drop]; exact hj), List.getElem_drop, Nat.add_assoc]
          exact (hbw.cell (p := ⟨b, o + (i + j), none⟩) (World.block_lt_of_cell? _ _ (hcs (i + j) (by omega)))).trans (hcs (i + j) (by omega)))
        rw [hgo, bs_size, List.length_drop] at hdr
        clear hgo hcs ka
        have HD := Lib.hid hdr
        clear hdr
        by_cases h5 : R = 65533
        · have h5b : ((R : Int) != 65533) = false := by subst h5; rfl
          go_wp2_with (go_at_call 81; refine HD.out.mono ?_; rintro e w' ⟨rfl, hbD⟩)
          go_loopg [15] 2 (fun g2 _ wx => ∃ j : Nat, j + g2 = 2 ∧ wx = w'.iter ⟨#[13, 10]⟩ j)
          case atStart => exact ⟨0, rfl, rfl⟩
          case round =>
            obtain ⟨j, hjg, rfl⟩ := hrel
            cases gk with
            | zero =>
              obtain rfl : j = 2 := by omega
              have hnx := run_next_end (P := Tryd.prog) w' ⟨#[13, 10]⟩ 2
              go_wp2
              go_roundg g
              case measure => omega
              case rel => exact ⟨i + K, by omega, by omega, by first | rfl | simp, hbw.trans ((hbD.alloc hbD.size _).mono hbw.size), HN⟩
            | succ g2 =>
              have hj : j < 2 := by omega
              obtain ⟨y, hy⟩ : ∃ y : UInt8, (⟨#[13, 10]⟩ : ByteArray)[j]'hj = y := ⟨_, rfl⟩
              have hy1 : y.toNat < 128 := by rw [← hy]; exact iter_two j hj
              have hnx := fun ty => run_next_ascii (P := Tryd.prog) w' ⟨#[13, 10]⟩ j ty hj (by rw [hy]; exact hy1)
              rw [hy] at hnx
              have hne : ((R : Int) == (y.toNat : Int)) = false := beq_eq_false_iff_ne.2 (by omega)
              clear hy
              go_wp2
              go_roundg g2
              case measure => omega
              case rel => exact ⟨j + 1, by omega, rfl⟩
        · have h5b : ((R : Int) != 65533) = true := bne_iff_ne.2 (by omega)
          have hval : R < 55296 ∨ (57343 < R ∧ R ≤ 1114111) := r2
          obtain ⟨e2, e3, e4⟩ := enc_width R r1 hval
          obtain ⟨m, hm⟩ := (HR.out.on hbw).most
          rcases kw h5 with ⟨hK, hR2⟩ | hK3
          · obtain ⟨y, z, hyz, hz8⟩ := e2 hR2
            have hKb : ((2 : Int) == (K : Int)) = true := by rw [hK]; rfl
            have hne : (([13, 10] : List UInt8) == (Utf8.encode (R : Int)).toList) = false := by
              rw [hyz, beq_eq_false_iff_ne]
              intro e
              rw [Lib.toList_data] at e
              have : z = 10 := by
                have e' : ([13, 10] : List UInt8) = [y, z] := e
                simp only [List.cons.injEq, and_true] at e'
                exact e'.2.symm
              rw [this] at hz8
              simp at hz8
            clear e2 e3 e4 hyz hz8 hm
            go_wp2_with (go_at_call 81; refine HD.out.mono ?_; rintro e w' ⟨rfl, hbD⟩)
            go_roundg g
            case measure => omega
            case rel => exact ⟨i + K, by omega, by omega, by first | rfl | (simp; done) | (simp; omega), hbw.trans (hbD.mono hbw.size), HN⟩
          · have hsz : (Utf8.encode (R : Int)).size = K := by
              rcases hK3 with ⟨hK, h2, h3⟩ | ⟨hK, h3⟩
              · rw [hK]; exact e3 h2 h3
              · rw [hK]; exact e4 h3
            have hK3' : 3 ≤ K := by omega
            have hKb : ((2 : Int) == (K : Int)) = false := beq_eq_false_iff_ne.2 (by omega)
            clear e2 e3 e4 hK3 kw
            by_cases hmK : (K : Int) ≤ m
            · have hmd : decide ((K : Int) ≤ m) = true := decide_eq_true hmK
              go_wp2_with (first
                | (go_at_call 81; refine HD.out.mono ?_; rintro e w' ⟨rfl, hbD⟩; have hm' := (hbD.cell (World.block_lt_of_cell? _ _ hm)).trans hm; have his := run_is ⟨#[13, 10]⟩ (Utf8.encode (R : Int)) w' m hm' (by omega) (by rw [hsz]; exact hmK) (by rw [hsz]; exact hK3') (by decide))
                )
              go_roundg g
              case measure => omega
              case rel => exact ⟨i + K, by omega, by omega, by first | rfl | (simp; done) | (simp; omega), hbw.trans (hbD.mono hbw.size), HN⟩
            · have hmd : decide ((K : Int) ≤ m) = false := decide_eq_false hmK
              go_wp2_with (go_at_call 81; refine HD.out.mono ?_; rintro e w' ⟨rfl, hbD⟩; have hm' := (hbD.cell (World.block_lt_of_cell? _ _ hm)).trans hm)
              go_loopg [15] 2 (fun g2 _ wx => ∃ j : Nat, j + g2 = 2 ∧ wx = w'.iter ⟨#[13, 10]⟩ j)
              case atStart => exact ⟨0, rfl, rfl⟩
              case round =>
                obtain ⟨j, hjg, rfl⟩ := hrel
                cases gk with
                | zero =>
                  obtain rfl : j = 2 := by omega
                  have hnx := run_next_end (P := Tryd.prog) w' ⟨#[13, 10]⟩ 2
                  go_wp2
                  go_roundg g
                  case measure => omega
                  case rel => exact ⟨i + K, by omega, by omega, by first | rfl | simp, hbw.trans ((hbD.alloc hbD.size _).mono hbw.size), HN⟩
                | succ g2 =>
                  have hj : j < 2 := by omega
                  obtain ⟨y, hy⟩ : ∃ y : UInt8, (⟨#[13, 10]⟩ : ByteArray)[j]'hj = y := ⟨_, rfl⟩
                  have hy1 : y.toNat < 128 := by rw [← hy]; exact iter_two j hj
                  have hnx := fun ty => run_next_ascii (P := Tryd.prog) w' ⟨#[13, 10]⟩ j ty hj (by rw [hy]; exact hy1)
                  rw [hy] at hnx
                  have hne : ((R : Int) == (y.toNat : Int)) = false := beq_eq_false_iff_ne.2 (by omega)
                  clear hy
                  go_wp2
                  go_roundg g2
                  case measure => omega
                  case rel => exact ⟨j + 1, by omega, rfl⟩
    · obtain rfl : i = l.length := by omega
      have hiz : decide ((l.length : Int) < (l.length : Int)) = false := decide_eq_false (by omega)
      have HV := Lib.hid (hF.none hik.out)
      go_wp2
      go_ret
      exact ⟨by rw [HV.out]; rfl, hbw⟩

/-- bytes.IndexAny of CR LF, in any bytes. -/
theorem idx_any (l : List UInt8) (k : Nat) (hF : First l k) (p : Option Addr) (c : Nat) (w : World) (hR : Runes w) (hb : Bin w p c l) :
    Calls Tryd.prog 65 #[.slice p l.length c, .string ⟨#[13, 10]⟩] w fun e w' => e = .returned (.int .i64 (firstV l k)) ∧ Below w.heap.size w w' := by
  by_cases h8 : 8 < l.length
  · exact idx_long l k hF h8 p c w hb
  · by_cases h1 : l.length = 1
    · obtain ⟨x, rfl⟩ : ∃ x, l = [x] := List.length_eq_one_iff.1 h1
      exact idx_one x k hF p c w hb
    · exact idx_short l k hF (by omega) h1 p c w hR hb
end Go.Proofs.YtcikelcecfapcaaDoor
