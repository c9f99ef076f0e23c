/-
  Replies in memory: four cells each; the elements in a row.
-/
import Derived.Test.YtcikelcecfapcaaDoorRespPure
import Derived.Test.YtcikelcecfapcaaDoorNumFits


namespace Go.Proofs.YtcikelcecfapcaaDoor
open Go.RowKit Rp

/-- The string of these bytes. -/
def bs (l : List UInt8) : ByteArray := ⟨l.toArray⟩
theorem bs_list (s : ByteArray) : bs s.data.toList = s := by cases s; rfl
theorem list_bs (l : List UInt8) : (bs l).data.toList = l := rfl
theorem bs_size (l : List UInt8) : (bs l).size = l.length := by show l.toArray.size = _; simp
theorem bs_inj {a b : List UInt8} (h : bs a = bs b) : a = b := by
  have := congrArg (fun s : ByteArray => s.data.toList) h
  simpa [bs] using this

mutual
/-- What a reply's elements are in memory, the slice's address p, its capacity c. -/
def RepIn (w : World) : Rep → Option Addr → Nat → Prop
  | .mk k s n l, p, c => Fits k ∧ Fits n ∧ s.length ≤ maxLen ∧ l.length ≤ c ∧ c ≤ maxLen ∧ (l = [] ∨ ∃ b o, p = some ⟨b, o, none⟩ ∧ RowIn w l b o)
/-- A row of replies. -/
def RowIn (w : World) : List Rep → Nat → Nat → Prop
  | [], _, _ => True
  | r :: rs, b, o => (∃ p c, w.cell? ⟨b, o, none⟩ = some (.int .i64 r.kind) ∧ w.cell? ⟨b, o + 1, none⟩ = some (.string (bs r.str)) ∧ w.cell? ⟨b, o + 2, none⟩ = some (.int .i64 r.num) ∧ w.cell? ⟨b, o + 3, none⟩ = some (.slice p r.kids.length c) ∧ RepIn w r p c) ∧ RowIn w rs b (o + 4)
end

/-- A reply's cells. -/
def repCs (r : Rep) (p : Option Addr) (c : Nat) : Array Value := #[.int .i64 r.kind, .string (bs r.str), .int .i64 r.num, .slice p r.kids.length c]

/-- A reply's four cells at a place. -/
def CellsAt (w : World) (b o : Nat) (r : Rep) (p : Option Addr) (c : Nat) : Prop :=
  w.cell? ⟨b, o, none⟩ = some (.int .i64 r.kind) ∧ w.cell? ⟨b, o + 1, none⟩ = some (.string (bs r.str)) ∧ w.cell? ⟨b, o + 2, none⟩ = some (.int .i64 r.num) ∧ w.cell? ⟨b, o + 3, none⟩ = some (.slice p r.kids.length c)

theorem CellsAt.lt {w : World} {b o : Nat} {r : Rep} {p : Option Addr} {c : Nat} (h : CellsAt w b o r p c) : b < w.heap.size := World.block_lt_of_cell? w _ h.1

theorem CellsAt.below {w w' : World} {b o : Nat} {r : Rep} {p : Option Addr} {c : Nat} (h : CellsAt w b o r p c) (hb : Below w.heap.size w w') : CellsAt w' b o r p c :=
  ⟨(hb.cell (p := ⟨b, o, none⟩) h.lt).trans h.1, (hb.cell (p := ⟨b, o + 1, none⟩) h.lt).trans h.2.1, (hb.cell (p := ⟨b, o + 2, none⟩) h.lt).trans h.2.2.1, (hb.cell (p := ⟨b, o + 3, none⟩) h.lt).trans h.2.2.2⟩

theorem row_at {w : World} : ∀ {l : List Rep} {b o : Nat} (_ : RowIn w l b o) (j : Nat) (hj : j < l.length), ∃ p c, CellsAt w b (o + j * 4) l[j] p c ∧ RepIn w l[j] p c
  | r :: rs, b, o, h, 0, _ => by
    rw [RowIn] at h
    obtain ⟨⟨p, c, h0, h1, h2, h3, h4⟩, _⟩ := h
    exact ⟨p, c, ⟨h0, h1, h2, h3⟩, h4⟩
  | r :: rs, b, o, h, j + 1, hj => by
    rw [RowIn] at h
    have := row_at h.2 j (by simpa using hj)
    rw [show o + 4 + j * 4 = o + (j + 1) * 4 by omega] at this
    exact this

theorem row_mk {w : World} : ∀ {l : List Rep} {b o : Nat}, (∀ (j : Nat) (hj : j < l.length), ∃ p c, CellsAt w b (o + j * 4) l[j] p c ∧ RepIn w l[j] p c) → RowIn w l b o
  | [], b, o, _ => by rw [RowIn]; trivial
  | r :: rs, b, o, h => by
    rw [RowIn]
    refine ⟨?_, row_mk (fun j hj => ?_)⟩
    · obtain ⟨p, c, ⟨h0, h1, h2, h3⟩, h4⟩ := h 0 (by simp)
      exact ⟨p, c, h0, h1, h2, h3, h4⟩
    · have := h (j + 1) (by simpa using hj)
      rw [show o + (j + 1) * 4 = o + 4 + j * 4 by omega] at this
      exact this

/-- What holds in a world holds where all of it is as it was. -/
theorem RepIn.below {w w' : World} (hb : Below w.heap.size w w') (r : Rep) : ∀ {p : Option Addr} {c : Nat}, RepIn w r p c → RepIn w' r p c := by
  refine Rep.ind (p := fun r => ∀ {p : Option Addr} {c : Nat}, RepIn w r p c → RepIn w' r p c) ?_ r
  intro k s n l ih p c h
  rw [RepIn] at h ⊢
  obtain ⟨h0, h1, h2, h3, h4, h5⟩ := h
  refine ⟨h0, h1, h2, h3, h4, h5.imp id ?_⟩
  rintro ⟨b, o, hp, hr⟩
  refine ⟨b, o, hp, row_mk fun j hj => ?_⟩
  obtain ⟨p, c, hc, hi⟩ := row_at hr j hj
  exact ⟨p, c, hc.below hb, ih _ (List.getElem_mem hj) hi⟩

theorem RowIn.below {w w' : World} (hb : Below w.heap.size w w') {l : List Rep} {b o : Nat} (h : RowIn w l b o) : RowIn w' l b o := row_mk fun j hj => by
  obtain ⟨p, c, hc, hi⟩ := row_at h j hj
  exact ⟨p, c, hc.below hb, RepIn.below hb _ hi⟩

/-- The parts of what is said of a reply. -/
theorem RepIn.parts {w : World} {k : Int} {s : List UInt8} {n : Int} {l : List Rep} {p : Option Addr} {c : Nat} (h : RepIn w (.mk k s n l) p c) :
    Fits k ∧ Fits n ∧ s.length ≤ maxLen ∧ l.length ≤ c ∧ c ≤ maxLen ∧ (l = [] ∨ ∃ b o, p = some ⟨b, o, none⟩ ∧ RowIn w l b o) := by rw [RepIn] at h; exact h

/-- The element j of a reply. -/
theorem RepIn.kid {w : World} {k : Int} {s : List UInt8} {n : Int} {l : List Rep} {p : Option Addr} {c : Nat} (h : RepIn w (.mk k s n l) p c) (j : Nat) (hj : j < l.length) :
    ∃ b o q d, p = some ⟨b, o, none⟩ ∧ CellsAt w b (o + j * 4) l[j] q d ∧ RepIn w l[j] q d := by
  obtain ⟨_, _, _, _, _, h5⟩ := h.parts
  rcases h5 with rfl | ⟨b, o, hp, hr⟩
  · simp at hj
  · obtain ⟨q, d, h1, h2⟩ := row_at hr j hj
    exact ⟨b, o, q, d, hp, h1, h2⟩
end Go.Proofs.YtcikelcecfapcaaDoor
