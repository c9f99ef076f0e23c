/-
  What glob.unquote and glob.ending answer.
-/
import Derived.Test.YtimnnldjmmdlmaaGlobClass
namespace Go.Proofs.Ytimnnldjmmdlmaa
open Go.RowKit

/-- The string of these bytes. -/
def bs (l : List UInt8) : ByteArray := ⟨l.toArray⟩

theorem bs_list (s : ByteArray) : bs s.data.toList = s := by cases s; rfl
theorem list_bs (l : List UInt8) : (bs l).data.toList = l := rfl
theorem bs_size (l : List UInt8) : (bs l).size = l.length := by show l.toArray.size = _; simp
theorem bs_get (l : List UInt8) (k : Nat) (_h : k < (bs l).size) (hk : k < l.length) : (bs l)[k] = l[k] := rfl
theorem bs_from (l : List UInt8) (k : Nat) (n : Nat) (hn : n = l.length) : (bs l).extract k n = bs (l.drop k) := by
  subst hn
  apply ByteArray.ext
  apply Array.ext'
  simp [bs, List.take_of_length_le]
theorem bs_to (l : List UInt8) (k : Nat) : (bs l).extract 0 k = bs (l.take k) := by
  apply ByteArray.ext
  apply Array.ext'
  simp [bs]
theorem bs_mid (l : List UInt8) (k n : Nat) : (bs l).extract k n = bs ((l.take n).drop k) := by
  apply ByteArray.ext
  apply Array.ext'
  simp [bs, List.drop_take]
theorem bs_inj {a b : List UInt8} (h : bs a = bs b) : a = b := by
  have := congrArg (fun s : ByteArray => s.data.toList) h
  simpa [bs] using this

set_option maxHeartbeats 400000 in
theorem unquote_two (s t u : ByteArray) (hs : 1 < s.size) (h0 : ((s[0].toNat : Int) == 92) = true) (ht : s.extract 1 s.size = t) (hu : t.extract 1 t.size = u) (htz : 0 < t.size) (w : World) :
    Calls Try.prog 21 #[.string s] w fun e w' => e = .returned (.tuple #[.int .u8 t[0].toNat, .string u]) ∧ Below w.heap.size w w' := by
  go_enter Try.func21, Try.ntmps21
  go_wp2
  go_region
  go_wp2
  go_ret2
  exact ⟨rfl, (Below.refl _ _).drew⟩

set_option maxHeartbeats 400000 in
theorem unquote_one (s t : ByteArray) (hs : 0 < s.size) (h0 : ((s[0].toNat : Int) == 92) = false) (ht : s.extract 1 s.size = t) (w : World) :
    Calls Try.prog 21 #[.string s] w fun e w' => e = .returned (.tuple #[.int .u8 s[0].toNat, .string t]) ∧ Below w.heap.size w w' := by
  go_enter Try.func21, Try.ntmps21
  go_wp2
  go_region
  go_wp2
  go_ret2
  exact ⟨rfl, (Below.refl _ _).drew⟩

set_option maxHeartbeats 400000 in
theorem unquote_last (s t : ByteArray) (hs : s.size = 1) (hs0 : 0 < s.size) (h0 : ((s[0].toNat : Int) == 92) = true) (ht : s.extract 1 s.size = t) (w : World) :
    Calls Try.prog 21 #[.string s] w fun e w' => e = .returned (.tuple #[.int .u8 s[0].toNat, .string t]) ∧ Below w.heap.size w w' := by
  have hd : decide (1 < (s.size : Int)) = false := by simp; omega
  have hs1 : 1 ≤ s.size := by omega
  clear hs
  go_enter Try.func21, Try.ntmps21
  go_wp2
  go_region
  go_wp2
  go_ret2
  exact ⟨rfl, (Below.refl _ _).drew⟩

theorem byte_is (b : UInt8) (k : Nat) (hk : k < 256) : (((b.toNat : Int) == (k : Int)) = (b == UInt8.ofNat k)) := by
  rw [Bool.eq_iff_iff, beq_iff_eq, beq_iff_eq]
  constructor
  · intro h
    apply UInt8.toNat_inj.1
    rw [UInt8.toNat_ofNat_of_lt' (by show k < 256; omega)]
    omega
  · rintro rfl
    rw [UInt8.toNat_ofNat_of_lt' (by show k < 256; omega)]

theorem unquote_any (l : List UInt8) (h : l ≠ []) (w : World) :
    Calls Try.prog 21 #[.string (bs l)] w fun e w' => e = .returned (.tuple #[.int .u8 (Glob.unq l).1.toNat, .string (bs (Glob.unq l).2)]) ∧ Below w.heap.size w w' := by
  match l, h with
  | [c], _ =>
    have hf : (bs [c]).extract 1 (bs [c]).size = bs [] := bs_from [c] 1 _ (bs_size _)
    cases h9 : (c == 92)
    · exact unquote_one (bs [c]) _ (by rw [bs_size]; simp) (by exact (byte_is c 92 (by omega)).trans h9) hf w
    · exact unquote_last (bs [c]) _ (by rw [bs_size]; rfl) (by rw [bs_size]; simp) (by exact (byte_is c 92 (by omega)).trans h9) hf w
  | c :: d :: r, _ =>
    have hf : (bs (c :: d :: r)).extract 1 (bs (c :: d :: r)).size = bs (d :: r) := bs_from _ 1 _ (bs_size _)
    have hf2 : (bs (d :: r)).extract 1 (bs (d :: r)).size = bs r := bs_from _ 1 _ (bs_size _)
    cases h9 : (c == 92)
    · have e : Glob.unq (c :: d :: r) = (c, d :: r) := by simp [Glob.unq, h9]
      rw [e]
      exact unquote_one (bs (c :: d :: r)) _ (by rw [bs_size]; simp) (by exact (byte_is c 92 (by omega)).trans h9) hf w
    · have e : Glob.unq (c :: d :: r) = (d, r) := by simp [Glob.unq, h9]
      rw [e]
      exact unquote_two (bs (c :: d :: r)) (bs (d :: r)) (bs r) (by rw [bs_size]; simp) (by exact (byte_is c 92 (by omega)).trans h9) hf hf2 (by rw [bs_size]; simp) w

/-- What 'ending' answers, as the function returns it. -/
def endPair (o : Option Nat) : Ending :=
  match o with
  | none => .returned (.tuple #[.int .i64 0, .bool false])
  | some e => .returned (.tuple #[.int .i64 e, .bool true])

theorem drop_get (s : ByteArray) (k : Nat) (h : k < s.size) : s.data.toList.drop k = s[k] :: s.data.toList.drop (k + 1) := by
  rw [List.drop_eq_getElem_cons (by simpa using h)]; rfl

set_option maxHeartbeats 1000000 in
theorem ending_any (s : ByteArray) (hs : s.size ≤ 1099511627776) (w : World) :
    Calls Try.prog 24 #[.string s] w fun e w' => e = endPair (Glob.ending s.data.toList) ∧ Below w.heap.size w w' := by
  go_enter Try.func24, Try.ntmps24
  go_wp2
  go_loopw [4] (fun i wr => ∃ k : Nat, k ≤ s.size + 1 ∧ i = .int .i64 k ∧ Hid (Glob.ending s.data.toList = Glob.endFrom k (s.data.toList.drop k)) ∧ Below w.heap.size w wr) (fun i _ => s.size + 1 - (intOf i).toNat)
  case atStart => exact ⟨0, Nat.zero_le _, rfl, Lib.hid rfl, Below.refl _ _⟩
  case round =>
    obtain ⟨k, hk, rfl, HE, HB⟩ := hrel
    by_cases hlt : k < s.size
    · have hd := drop_get s k hlt
      have hdlt : decide ((k : Int) < (s.size : Int)) = true := by simp; omega
      have b1 := byte_is s[k] 92 (by omega)
      have b2 := byte_is s[k] 93 (by omega)
      rw [hd] at HE
      cases h9 : (s[k] == 92)
      · cases h3 : (s[k] == 93)
        · have g1 : ((s[k].toNat : Int) == 92) = false := b1.trans h9
          have g2 : ((s[k].toNat : Int) == 93) = false := b2.trans h3
          have HE' : Hid (Glob.ending s.data.toList = Glob.endFrom (k + 1) (s.data.toList.drop (k + 1))) := HE.out.trans (Glob.endFrom_other _ _ _ h9 (Or.inl h3))
          clear b1 b2 hd HE h9 h3
          go_wp2
          go_roundw
          case rel => exact ⟨k + 1, by omega, by go_num, HE', HB⟩
          case measure => simp [intOf]; omega
        · by_cases hz : k = 0
          · subst hz
            have g1 : ((s[0].toNat : Int) == 92) = false := b1.trans h9
            have g2 : ((s[0].toNat : Int) == 93) = true := b2.trans h3
            have HE' : Hid (Glob.ending s.data.toList = Glob.endFrom 1 (s.data.toList.drop 1)) := HE.out.trans (Glob.endFrom_other _ _ _ h9 (Or.inr rfl))
            clear b1 b2 hd HE h9 h3
            go_wp2
            go_roundw
            case rel => exact ⟨1, by omega, rfl, HE', HB⟩
            case measure => simp [intOf]
          · have g1 : ((s[k].toNat : Int) == 92) = false := b1.trans h9
            have g2 : ((s[k].toNat : Int) == 93) = true := b2.trans h3
            have g3 : decide (0 < (k : Int)) = true := by simp; omega
            have HE' : Hid (Glob.ending s.data.toList = some k) := HE.out.trans (Glob.endFrom_close _ _ _ h9 h3 (by omega))
            clear b1 b2 hd HE h9 h3
            go_wp2
            go_ret2
            exact ⟨by rw [HE'.out]; rfl, HB⟩
      · have g1 : ((s[k].toNat : Int) == 92) = true := b1.trans h9
        have HE' : Hid (Glob.ending s.data.toList = Glob.endFrom (k + 2) (s.data.toList.drop (k + 2))) := HE.out.trans ((Glob.endFrom_slash _ _ _ h9).trans (by rw [List.tail_drop]))
        clear b1 b2 hd HE h9
        go_wp2
        go_roundw
        case rel => exact ⟨k + 2, by omega, by go_num, HE', HB⟩
        case measure => simp [intOf]; omega
    · have hdlt : decide ((k : Int) < (s.size : Int)) = false := by simp; omega
      have HE' : Hid (Glob.ending s.data.toList = none) := HE.out.trans (by rw [List.drop_eq_nil_of_le (by simp; omega)]; rfl)
      go_wp2
      go_ret2
      exact ⟨by rw [HE'.out]; rfl, HB⟩

end Go.Proofs.Ytimnnldjmmdlmaa
