/-
  bytes.IndexAny of CR LF in more than eight bytes.
-/
import Derived.Test.YtkcapbjmhimceaaDoorRespIdx
import Derived.Deep.WholeRow
namespace Go.Proofs.YtkcapbjmhimceaaDoor
open Go.RowKit Rp

theorem info_setB : (Tryd.prog.info? 76).map (fun i => (i.zero, i.size)) = some (some (.agg (Array.replicate 256 (.bool false))), 256) := by kernel_rfl

theorem two_in (x : UInt8) : ([13, 10] : List UInt8).contains x = true ↔ (x = 13 ∨ x = 10) := by simp

set_option maxRecDepth 100000 in
set_option maxHeartbeats 4000000 in
/-- More than eight bytes. -/
theorem idx_long (l : List UInt8) (k : Nat) (hF : First l k) (h8 : 8 < l.length) (p : Option Addr) (c : Nat) (w : World) (hb : Bin w p c l) :
    Calls Tryd.prog 41 #[.slice p l.length c, .string ⟨#[13, 10]⟩] w fun e w' => e = .returned (.int .i64 (firstV l k)) ∧ Below w.heap.size w w' := by
  have hM := Tryd.bytes_makeASCIISet (zero_of_info info_setB).1 ⟨#[13, 10]⟩ w (by decide) (by
    intro j b hb
    match j, hb with
    | 0, hb => simp at hb; subst hb; decide
    | 1, hb => simp at hb; subst hb; decide)
  obtain ⟨b, o, rfl, hcells⟩ := hb.at_ (by intro e; rw [e] at h8; simp at h8)
  have hn1 : ((l.length : Int) == 1) = false := beq_eq_false_iff_ne.2 (by omega)
  have h8z : decide ((8 : Int) < (l.length : Int)) = true := decide_eq_true (by omega)
  obtain ⟨S, hS⟩ : ∃ S, Lib.setCells (⟨#[13, 10]⟩ : ByteArray).data.toList = S := ⟨_, rfl⟩
  rw [hS] at hM
  have hsz : S.size = 256 := by rw [← hS]; exact Lib.setCells_size _
  have hsc : (storeCells ⟨w.heap.size + 1, 0, none⟩ S.toList 0).run Tryd.prog ((w.alloc (.cells S 76)).alloc (.cells (Array.replicate 256 (.bool false)) 76)) = .ok () ((w.alloc (.cells S 76)).alloc (.cells S 76)) := by
    have := run_storeCells_new (P := Tryd.prog) (w.alloc (.cells S 76)) 76 (Array.replicate 256 (.bool false)) S (by rw [hsz]; exact (zero_of_info info_setB).2) (by rw [hsz, Array.size_replicate]) (by rw [← hS]; exact Lib.setCells_one _)
    simpa using this
  have HC : Hid (∀ x : UInt8, ((w.alloc (.cells S 76)).alloc (.cells S 76)).cell? ⟨w.heap.size + 1, x.toNat, none⟩ = some (.bool (([13, 10] : List UInt8).contains x))) := Lib.hid (fun x => by
    rw [World.cell?_alloc_at _ _ _ _ (by simp), ← hS, Lib.setCells_at])
  have hW : Below w.heap.size w ((w.alloc (.cells S 76)).alloc (.cells S 76)) := ((Below.refl _ _).alloc (Nat.le_refl _) _).alloc (by simp) _
  have HX := Lib.hid (fun (j : Nat) (h : j < l.length) => (hW.cell (p := ⟨b, o + j, none⟩) (World.block_lt_of_cell? w _ (hcells j h))).trans (hcells j h))
  have hlen : l.length ≤ maxLen := Nat.le_trans hb.cap hb.max
  unfold maxLen at hlen
  clear hcells hb hS
  go_enter Tryd.func41, Tryd.ntmps41
  go_wp2_with (first
    | (go_at_call 49; refine (use_set l.length _).mono ?_; rintro e w' ⟨rfl, rfl⟩; rw [h8z])
    | (go_at_call 50; refine hM.mono ?_; rintro e w' ⟨rfl, hw⟩; rw [hw]))
  have hz : Tryd.zeroCells76 = Array.replicate 256 (.bool false) := rfl
  simp only [hz, hsc, Result.andThen]
  rw [Oper.upon_skip]
  clear hz
  obtain ⟨W, hWd⟩ : ∃ W, ((w.alloc (.cells S 76)).alloc (.cells S 76)) = W := ⟨_, rfl⟩
  rw [hWd] at HC HX hW
  simp only [hWd]
  clear hM hsc hWd hsz hw
  go_wp2
  go_loopg [62, 9, 10] l.length (fun g s62 _ _ wx => ∃ i : Nat, i + g = l.length ∧ s62 = .int .i64 i ∧ wx = W ∧ Hid (i ≤ k))
  case atStart => exact ⟨0, by omega, rfl, rfl, Lib.hid (Nat.zero_le _)⟩
  case round =>
    obtain ⟨i, hig, rfl, rfl, hik⟩ := hrel
    cases gk with
    | zero =>
      obtain rfl : i = l.length := by omega
      have hiz : decide ((l.length : Int) < (l.length : Int)) = false := decide_eq_false (by omega)
      have HV := Lib.hid (hF.none hik.out)
      go_wp2
      go_ret
      exact ⟨by rw [HV.out]; rfl, hW⟩
    | succ g =>
      have hi : i < l.length := by omega
      have hiz : decide ((i : Int) < (l.length : Int)) = true := decide_eq_true (by omega)
      have hx := HX.out i hi
      have hcx := HC.out l[i]
      obtain ⟨x, hxd⟩ : ∃ x : UInt8, l[i] = x := ⟨_, rfl⟩
      rw [hxd] at hx hcx
      cases hin : ([13, 10] : List UInt8).contains x <;> rw [hin] at hcx
      · have HN := Lib.hid (hF.ge (i := i) hi ⟨fun e => by rw [hxd] at e; rw [e] at hin; simp at hin, fun e => by rw [hxd] at e; rw [e] at hin; simp at hin⟩ hik.out)
        clear hin hxd
        go_wp2_with (go_at_call 51; refine (Tryd.bytes_asciiSet_contains _ x _ _ hcx).mono ?_; rintro e w' ⟨rfl, hw⟩; rw [hw])
        go_roundg g
        case measure => omega
        case rel => exact ⟨i + 1, by omega, by first | rfl | simp, rfl, HN⟩
      · have HV := Lib.hid (hF.is (i := i) hi (by rw [hxd]; exact (two_in x).1 hin) hik.out)
        clear hin hxd
        go_wp2_with (go_at_call 51; refine (Tryd.bytes_asciiSet_contains _ x _ _ hcx).mono ?_; rintro e w' ⟨rfl, hw⟩; rw [hw])
        go_ret
        exact ⟨by rw [HV.out]; rfl, hW⟩
end Go.Proofs.YtkcapbjmhimceaaDoor
