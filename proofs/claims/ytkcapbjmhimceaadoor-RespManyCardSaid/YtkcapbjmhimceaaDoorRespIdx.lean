/-
  What bytes.IndexAny answers of CR LF: the first place of either.
-/
import Derived.Test.YtkcapbjmhimceaaDoorRespBin
import Derived.Lib.IndexLaws
namespace Go.Proofs.YtkcapbjmhimceaaDoor
open Go.RowKit Rp

/-- k is the first place of a CR or an LF in l, or its length. -/
structure First (l : List UInt8) (k : Nat) : Prop where
  le : k ≤ l.length
  pre : ∀ (i : Nat) (h : i < l.length), i < k → l[i] ≠ 13 ∧ l[i] ≠ 10
  at_ : ∀ (h : k < l.length), l[k] = 13 ∨ l[k] = 10

/-- What is answered. -/
def firstV (l : List UInt8) (k : Nat) : Int := if k < l.length then (k : Int) else -1

/-- What the tables of package utf8, and MaxLen, hold. -/
structure Runes (w : World) : Prop where
  tabs : Lib.Utf8Tabs 1 2 w
  most : ∃ m : Int, w.cell? ⟨0, 0, none⟩ = some (.int .i64 m)
theorem Runes.on {w w' : World} (h : Runes w) (hb : Below w.heap.size w w') : Runes w' :=
  ⟨Utf8Tabs_below h.tabs hb, by
    obtain ⟨m, hm⟩ := h.most
    exact ⟨m, (hb.cell (World.block_lt_of_cell? w _ hm)).trans hm⟩⟩

theorem First.ge {l : List UInt8} {k i : Nat} (h : First l k) (hi : i < l.length) (hx : l[i] ≠ 13 ∧ l[i] ≠ 10) (hik : i ≤ k) : i + 1 ≤ k := by
  rcases Nat.lt_or_ge i k with h1 | h1
  · exact h1
  · obtain rfl : i = k := by omega
    rcases h.at_ hi with h2 | h2
    · exact absurd h2 hx.1
    · exact absurd h2 hx.2
theorem First.is {l : List UInt8} {k i : Nat} (h : First l k) (hi : i < l.length) (hx : l[i] = 13 ∨ l[i] = 10) (hik : i ≤ k) : firstV l k = (i : Int) := by
  have : i = k := by
    rcases Nat.lt_or_ge i k with h1 | h1
    · have := h.pre i hi h1
      rcases hx with hx | hx
      · exact absurd hx this.1
      · exact absurd hx this.2
    · omega
  subst this
  unfold firstV
  rw [if_pos hi]
theorem First.skip {l : List UInt8} {k i K : Nat} (h : First l k) (hK : i + K ≤ l.length) (ha : ∀ j (hj : i + j < l.length), j < K → 128 ≤ l[i + j].toNat) (hik : i ≤ k) : i + K ≤ k := by
  induction K with
  | zero => exact hik
  | succ K ih =>
    have h1 := ih (by omega) (fun j hj hjk => ha j hj (by omega))
    have hx := ha K (by omega) (by omega)
    show i + K + 1 ≤ k
    exact h.ge (by omega) ⟨fun e => by rw [e] at hx; simp at hx, fun e => by rw [e] at hx; simp at hx⟩ h1
theorem First.none {l : List UInt8} {k : Nat} (_ : First l k) (hk : l.length ≤ k) : firstV l k = -1 := by
  unfold firstV
  rw [if_neg (by omega)]

theorem two_index (x : UInt8) : (x = 13 → Lib.indexByte [13, 10] ((((x.toNat : Nat) : Int)).toNat.toUInt8) = 0) ∧ (x = 10 → Lib.indexByte [13, 10] ((((x.toNat : Nat) : Int)).toNat.toUInt8) = 1) ∧ (x ≠ 13 ∧ x ≠ 10 → Lib.indexByte [13, 10] ((((x.toNat : Nat) : Int)).toNat.toUInt8) = -1) := by
  have e : ((((x.toNat : Nat) : Int)).toNat.toUInt8) = x := by simp
  rw [e]
  refine ⟨fun h => by rw [h]; rfl, fun h => by rw [h]; rfl, fun h => ?_⟩
  rw [Lib.indexByte, Lib.indexByte, Lib.indexByte]
  have e1 : ((13 : UInt8) == x) = false := by rw [beq_eq_false_iff_ne]; exact fun h1 => h.1 h1.symm
  have e2 : ((10 : UInt8) == x) = false := by rw [beq_eq_false_iff_ne]; exact fun h1 => h.2 h1.symm
  rw [e1, e2]; rfl

/-- internal/bytealg.IndexByteString, as the walk meets it. -/
theorem run_ibs (s : ByteArray) (c : Int) (w : World) : (callFunc 47 #[.string s, .int .u8 c]).run Tryd.prog w = .ok (.value (.int .i64 (Lib.indexByte s.data.toList c.toNat.toUInt8))) w := by
  rw [run_callFunc_extern Tryd.func47 (by kernel_rfl) (by kernel_rfl) (by kernel_rfl) (e := Extern.BytealgIndexByte.indexByte) (by kernel_rfl), Lib.run_indexByteString]
  rfl

set_option maxRecDepth 100000 in
set_option maxHeartbeats 2000000 in
/-- One byte. -/
theorem idx_one (x : UInt8) (k : Nat) (hF : First [x] k) (p : Option Addr) (c : Nat) (w : World) (hb : Bin w p c [x]) :
    Calls Tryd.prog 41 #[.slice p 1 c, .string ⟨#[13, 10]⟩] w fun e w' => e = .returned (.int .i64 (firstV [x] k)) ∧ Below w.heap.size w w' := by
  obtain ⟨b, o, rfl, hc⟩ := hb.at_ (by simp)
  have c0 := hc 0 (by simp)
  simp only [List.getElem_cons_zero, Nat.add_zero] at c0
  obtain ⟨t1, t2, t3⟩ := two_index x
  have hi := run_ibs ⟨#[13, 10]⟩ (x.toNat : Int)
  have hx256 : x.toNat < 256 := UInt8.toNat_lt x
  by_cases hx : x.toNat < 128
  · have hd : decide ((128 : Int) ≤ (x.toNat : Int)) = false := decide_eq_false (by omega)
    by_cases h13 : x = 13
    · rw [t1 h13] at hi
      have HV := Lib.hid (hF.is (i := 0) (by simp) (.inl h13) (Nat.zero_le _))
      clear t1 t2 t3 h13
      go_enter Tryd.func41, Tryd.ntmps41
      go_wp2
      go_ret
      exact ⟨by rw [HV.out]; rfl, Below.refl _ _⟩
    · by_cases h10 : x = 10
      · rw [t2 h10] at hi
        have HV := Lib.hid (hF.is (i := 0) (by simp) (.inr h10) (Nat.zero_le _))
        clear t1 t2 t3 h10 h13
        go_enter Tryd.func41, Tryd.ntmps41
        go_wp2
        go_ret
        exact ⟨by rw [HV.out]; rfl, Below.refl _ _⟩
      · rw [t3 ⟨h13, h10⟩] at hi
        have HV := Lib.hid (hF.none (hF.ge (i := 0) (by simp) ⟨h13, h10⟩ (Nat.zero_le _)))
        clear t1 t2 t3 h10 h13
        go_enter Tryd.func41, Tryd.ntmps41
        go_wp2
        go_ret
        exact ⟨by rw [HV.out]; rfl, Below.refl _ _⟩
  · have hd : decide ((128 : Int) ≤ (x.toNat : Int)) = true := decide_eq_true (by omega)
    have HV := Lib.hid (hF.none (hF.skip (i := 0) (K := 1) (by simp) (fun j hj hj1 => by obtain rfl : j = 0 := (by omega); simpa using hx) (Nat.zero_le _)))
    clear t1 t2 t3
    go_enter Tryd.func41, Tryd.ntmps41
    go_wp2_with fail
    go_loopg [5] 2 (fun g _ wx => ∃ i : Nat, i + g = 2 ∧ wx = w.iter ⟨#[13, 10]⟩ i)
    case atStart => exact ⟨0, rfl, rfl⟩
    case round =>
      obtain ⟨i, hig, rfl⟩ := hrel
      cases gk with
      | zero =>
        obtain rfl : i = 2 := by omega
        have hnx := run_next_end (P := Tryd.prog) w ⟨#[13, 10]⟩ 2
        go_wp2
        go_ret
        exact ⟨by rw [HV.out]; rfl, (Below.refl _ w).alloc (Nat.le_refl _) _⟩
      | succ g =>
        have hi : i < 2 := by omega
        obtain ⟨y, hy⟩ : ∃ y : UInt8, (⟨#[13, 10]⟩ : ByteArray)[i]'hi = y := ⟨_, rfl⟩
        have hy1 : y.toNat < 128 := by rw [← hy]; exact iter_two i hi
        have hnx := fun ty => run_next_ascii (P := Tryd.prog) w ⟨#[13, 10]⟩ i ty hi (by rw [hy]; exact hy1)
        rw [hy] at hnx
        have hne : ((y.toNat : Int) == 65533) = false := beq_eq_false_iff_ne.2 (by omega)
        clear hy
        go_wp2
        go_roundg g
        case measure => omega
        case rel => exact ⟨i + 1, by omega, rfl⟩
end Go.Proofs.YtkcapbjmhimceaaDoor
