/-
  bytes.IndexAny of CR LF in at most eight bytes.
-/
import Derived.Test.YtkcapbjmhimceaaDoorRespIdx2
namespace Go.Proofs.YtkcapbjmhimceaaDoor
open Go.RowKit Rp

/-- internal/bytealg.IndexString: a text of three bytes or more does not lie in two. -/
theorem run_is (a b : ByteArray) (w : World) (m : Int) (hm : w.cell? ⟨0, 0, none⟩ = some (.int .i64 m)) (h2 : 2 ≤ b.size) (hb : (b.size : Int) ≤ m) (hl : a.size < b.size) (ha : a.size < 4294967281) : (callFunc 53 #[.string a, .string b]).run Tryd.prog w = .ok (.value (.int .i64 (-1))) w := by
  rw [run_callFunc_extern Tryd.func53 (by kernel_rfl) (by kernel_rfl) (by kernel_rfl) (e := Extern.BytealgIndex.index) (by kernel_rfl), Lib.run_indexString a b w 0 m (by kernel_rfl) hm h2 hb ha, Lib.index_long (by have := Lib.size_eq a; have := Lib.size_eq b; omega) (by intro e; have h1 := Lib.size_eq a; have h2 := Lib.size_eq b; rw [e] at h2; omega)]
  rfl

set_option maxRecDepth 100000 in
set_option maxHeartbeats 4000000 in
/-- At most eight bytes. -/
theorem idx_short (l : List UInt8) (k : Nat) (hF : First l k) (h8 : l.length ≤ 8) (h1 : l.length ≠ 1) (p : Option Addr) (c : Nat) (w : World) (hR : Runes w) (hb : Bin w p c l) :
    Calls Tryd.prog 41 #[.slice p l.length c, .string ⟨#[13, 10]⟩] w fun e w' => e = .returned (.int .i64 (firstV l k)) ∧ Below w.heap.size w w' := by
  have hn1 : ((l.length : Int) == 1) = false := beq_eq_false_iff_ne.2 (by omega)
  have h8z : decide ((8 : Int) < (l.length : Int)) = false := decide_eq_false (by omega)
  have hlc : l.length ≤ c := hb.cap
  have hcm : c ≤ maxLen := hb.max
  unfold maxLen at hcm
  have HX := Lib.hid hb.at_
  have HR := Lib.hid hR
  clear hb hR
  go_enter Tryd.func41, Tryd.ntmps41
  go_wp2_with (go_at_call 49; refine (use_set l.length _).mono ?_; rintro e w' ⟨rfl, rfl⟩; rw [h8z])
  go_loopg [12] l.length (fun g s12 wx => ∃ i : Nat, l.length ≤ i + g ∧ i ≤ l.length ∧ s12 = .int .i64 i ∧ Below w.heap.size w wx ∧ Hid (i ≤ k))
  case atStart => exact ⟨0, by omega, by omega, rfl, Below.refl _ _, Lib.hid (Nat.zero_le _)⟩
  case round =>
    obtain ⟨i, hig, hil, rfl, hbw, hik⟩ := hrel
    by_cases hi : i < l.length
    · obtain ⟨g, rfl⟩ : ∃ g', gk = g' + 1 := ⟨gk - 1, by omega⟩
      have hiz : decide ((i : Int) < (l.length : Int)) = true := decide_eq_true (by omega)
      obtain ⟨b, o, rfl, hcs⟩ := HX.out (by intro e; rw [e] at hi; simp at hi)
      have hx : wr.cell? ⟨b, o + i, none⟩ = some (.int .u8 (l[i].toNat : Nat)) := (hbw.cell (p := ⟨b, o + i, none⟩) (World.block_lt_of_cell? _ _ (hcs i hi))).trans (hcs i hi)
      obtain ⟨x, hxd⟩ : ∃ x : UInt8, l[i] = x := ⟨_, rfl⟩
      rw [hxd] at hx
      have hx256 : x.toNat < 256 := UInt8.toNat_lt x
      by_cases hx8 : x.toNat < 128
      · have hd : decide ((x.toNat : Int) < 128) = true := decide_eq_true (by omega)
        obtain ⟨t1, t2, t3⟩ := two_index x
        have hib := run_ibs ⟨#[13, 10]⟩ (x.toNat : Int)
        by_cases hin : x = 13 ∨ x = 10
        · have HV := Lib.hid (hF.is (i := i) hi (by rw [hxd]; exact hin) hik.out)
          rcases hin with h13 | h10
          · rw [t1 h13] at hib
            clear t1 t2 t3 h13 hxd hcs
            go_wp2
            go_ret
            exact ⟨by rw [HV.out]; rfl, hbw⟩
          · rw [t2 h10] at hib
            clear t1 t2 t3 h10 hxd hcs
            go_wp2
            go_ret
            exact ⟨by rw [HV.out]; rfl, hbw⟩
        · have hne : x ≠ 13 ∧ x ≠ 10 := ⟨fun e => hin (.inl e), fun e => hin (.inr e)⟩
          have HN := Lib.hid (hF.ge (i := i) hi (by rw [hxd]; exact hne) hik.out)
          rw [t3 hne] at hib
          clear t1 t2 t3 hne hin hxd hcs
          go_wp2
          go_roundg g
          case measure => omega
          case rel => exact ⟨i + 1, by omega, by omega, by first | rfl | simp, hbw, HN⟩
      · have hd : decide ((x.toNat : Int) < 128) = false := decide_eq_false (by omega)
        obtain ⟨R, K, hgo, r1, r2, k1, k2, ka, kw⟩ := dec_rest l i hi (by rw [hxd]; omega)
        have HN := Lib.hid (hF.skip (i := i) (K := K) k2 ka hik.out)
        have hdr := Tryd.utf8_DecodeRune (bs (l.drop i)) b (o + i) (c - i) wr (HR.out.on hbw).tabs (by
          intro j hj
          rw [bs_size, List.length_drop] at hj
          rw [bs_getB _ _ (by rw [List.length_drop]; exact hj), List.getElem_drop, Nat.add_assoc]
          exact (hbw.cell (p := ⟨b, o + (i + j), none⟩) (World.block_lt_of_cell? _ _ (hcs (i + j) (by omega)))).trans (hcs (i + j) (by omega)))
        rw [hgo, bs_size, List.length_drop] at hdr
        clear hgo hcs ka
        have HD := Lib.hid hdr
        clear hdr
        by_cases h5 : R = 65533
        · have h5b : ((R : Int) != 65533) = false := by subst h5; rfl
          go_wp2_with (go_at_call 52; refine HD.out.mono ?_; rintro e w' ⟨rfl, hbD⟩)
          go_loopg [15] 2 (fun g2 _ wx => ∃ j : Nat, j + g2 = 2 ∧ wx = w'.iter ⟨#[13, 10]⟩ j)
          case atStart => exact ⟨0, rfl, rfl⟩
          case round =>
            obtain ⟨j, hjg, rfl⟩ := hrel
            cases gk with
            | zero =>
              obtain rfl : j = 2 := by omega
              have hnx := run_next_end (P := Tryd.prog) w' ⟨#[13, 10]⟩ 2
              go_wp2
              go_roundg g
              case measure => omega
              case rel => exact ⟨i + K, by omega, by omega, by first | rfl | simp, hbw.trans ((hbD.alloc hbD.size _).mono hbw.size), HN⟩
            | succ g2 =>
              have hj : j < 2 := by omega
              obtain ⟨y, hy⟩ : ∃ y : UInt8, (⟨#[13, 10]⟩ : ByteArray)[j]'hj = y := ⟨_, rfl⟩
              have hy1 : y.toNat < 128 := by rw [← hy]; exact iter_two j hj
              have hnx := fun ty => run_next_ascii (P := Tryd.prog) w' ⟨#[13, 10]⟩ j ty hj (by rw [hy]; exact hy1)
              rw [hy] at hnx
              have hne : ((R : Int) == (y.toNat : Int)) = false := beq_eq_false_iff_ne.2 (by omega)
              clear hy
              go_wp2
              go_roundg g2
              case measure => omega
              case rel => exact ⟨j + 1, by omega, rfl⟩
        · have h5b : ((R : Int) != 65533) = true := bne_iff_ne.2 (by omega)
          have hval : R < 55296 ∨ (57343 < R ∧ R ≤ 1114111) := r2
          obtain ⟨e2, e3, e4⟩ := enc_width R r1 hval
          obtain ⟨m, hm⟩ := (HR.out.on hbw).most
          rcases kw h5 with ⟨hK, hR2⟩ | hK3
          · obtain ⟨y, z, hyz, hz8⟩ := e2 hR2
            have hKb : ((2 : Int) == (K : Int)) = true := by rw [hK]; rfl
            have hne : (([13, 10] : List UInt8) == (Utf8.encode (R : Int)).toList) = false := by
              rw [hyz, beq_eq_false_iff_ne]
              intro e
              rw [Lib.toList_data] at e
              have : z = 10 := by
                have e' : ([13, 10] : List UInt8) = [y, z] := e
                simp only [List.cons.injEq, and_true] at e'
                exact e'.2.symm
              rw [this] at hz8
              simp at hz8
            clear e2 e3 e4 hyz hz8 hm
            go_wp2_with (go_at_call 52; refine HD.out.mono ?_; rintro e w' ⟨rfl, hbD⟩)
            go_roundg g
            case measure => omega
            case rel => exact ⟨i + K, by omega, by omega, by first | rfl | (simp; done) | (simp; omega), hbw.trans (hbD.mono hbw.size), HN⟩
          · have hsz : (Utf8.encode (R : Int)).size = K := by
              rcases hK3 with ⟨hK, h2, h3⟩ | ⟨hK, h3⟩
              · rw [hK]; exact e3 h2 h3
              · rw [hK]; exact e4 h3
            have hK3' : 3 ≤ K := by omega
            have hKb : ((2 : Int) == (K : Int)) = false := beq_eq_false_iff_ne.2 (by omega)
            clear e2 e3 e4 hK3 kw
            by_cases hmK : (K : Int) ≤ m
            · have hmd : decide ((K : Int) ≤ m) = true := decide_eq_true hmK
              go_wp2_with (first
                | (go_at_call 52; refine HD.out.mono ?_; rintro e w' ⟨rfl, hbD⟩; have hm' := (hbD.cell (World.block_lt_of_cell? _ _ hm)).trans hm; have his := run_is ⟨#[13, 10]⟩ (Utf8.encode (R : Int)) w' m hm' (by omega) (by rw [hsz]; exact hmK) (by rw [hsz]; exact hK3') (by decide))
                )
              go_roundg g
              case measure => omega
              case rel => exact ⟨i + K, by omega, by omega, by first | rfl | (simp; done) | (simp; omega), hbw.trans (hbD.mono hbw.size), HN⟩
            · have hmd : decide ((K : Int) ≤ m) = false := decide_eq_false hmK
              go_wp2_with (go_at_call 52; refine HD.out.mono ?_; rintro e w' ⟨rfl, hbD⟩; have hm' := (hbD.cell (World.block_lt_of_cell? _ _ hm)).trans hm)
              go_loopg [15] 2 (fun g2 _ wx => ∃ j : Nat, j + g2 = 2 ∧ wx = w'.iter ⟨#[13, 10]⟩ j)
              case atStart => exact ⟨0, rfl, rfl⟩
              case round =>
                obtain ⟨j, hjg, rfl⟩ := hrel
                cases gk with
                | zero =>
                  obtain rfl : j = 2 := by omega
                  have hnx := run_next_end (P := Tryd.prog) w' ⟨#[13, 10]⟩ 2
                  go_wp2
                  go_roundg g
                  case measure => omega
                  case rel => exact ⟨i + K, by omega, by omega, by first | rfl | simp, hbw.trans ((hbD.alloc hbD.size _).mono hbw.size), HN⟩
                | succ g2 =>
                  have hj : j < 2 := by omega
                  obtain ⟨y, hy⟩ : ∃ y : UInt8, (⟨#[13, 10]⟩ : ByteArray)[j]'hj = y := ⟨_, rfl⟩
                  have hy1 : y.toNat < 128 := by rw [← hy]; exact iter_two j hj
                  have hnx := fun ty => run_next_ascii (P := Tryd.prog) w' ⟨#[13, 10]⟩ j ty hj (by rw [hy]; exact hy1)
                  rw [hy] at hnx
                  have hne : ((R : Int) == (y.toNat : Int)) = false := beq_eq_false_iff_ne.2 (by omega)
                  clear hy
                  go_wp2
                  go_roundg g2
                  case measure => omega
                  case rel => exact ⟨j + 1, by omega, rfl⟩
    · obtain rfl : i = l.length := by omega
      have hiz : decide ((l.length : Int) < (l.length : Int)) = false := decide_eq_false (by omega)
      have HV := Lib.hid (hF.none hik.out)
      go_wp2
      go_ret
      exact ⟨by rw [HV.out]; rfl, hbw⟩

/-- bytes.IndexAny of CR LF, in any bytes. -/
theorem idx_any (l : List UInt8) (k : Nat) (hF : First l k) (p : Option Addr) (c : Nat) (w : World) (hR : Runes w) (hb : Bin w p c l) :
    Calls Tryd.prog 41 #[.slice p l.length c, .string ⟨#[13, 10]⟩] w fun e w' => e = .returned (.int .i64 (firstV l k)) ∧ Below w.heap.size w w' := by
  by_cases h8 : 8 < l.length
  · exact idx_long l k hF h8 p c w hb
  · by_cases h1 : l.length = 1
    · obtain ⟨x, rfl⟩ : ∃ x, l = [x] := List.length_eq_one_iff.1 h1
      exact idx_one x k hF p c w hb
    · exact idx_short l k hF (by omega) h1 p c w hR hb
end Go.Proofs.YtkcapbjmhimceaaDoor
