/-
  A reader's input whole; the document's example.
-/
import Derived.Test.YtcikelcecfapcaaDoorReqSame
namespace Go.Proofs.YtcikelcecfapcaaDoor
open Go.RowKit Rp Rq

def exBytes : List UInt8 := [42, 49, 13, 10, 36, 52, 13, 10, 80, 73, 78, 71, 13, 10, 32, 83, 69, 84, 32, 97, 32, 32, 98, 32, 13, 10, 42]
def exCmds : List (List Wd) := [[[80, 73, 78, 71]], [[83, 69, 84], [97], [98]]]
theorem ex_cells (j : Nat) (hj : j < exBytes.length) : (#[.int .u8 42, .int .u8 49, .int .u8 13, .int .u8 10, .int .u8 36, .int .u8 52, .int .u8 13, .int .u8 10, .int .u8 80, .int .u8 73, .int .u8 78, .int .u8 71, .int .u8 13, .int .u8 10, .int .u8 32, .int .u8 83, .int .u8 69, .int .u8 84, .int .u8 32, .int .u8 97, .int .u8 32, .int .u8 32, .int .u8 98, .int .u8 32, .int .u8 13, .int .u8 10, .int .u8 42] : Array Value)[j]? = some (.int .u8 (exBytes[j].toNat : Nat)) := by
  have e : (#[.int .u8 42, .int .u8 49, .int .u8 13, .int .u8 10, .int .u8 36, .int .u8 52, .int .u8 13, .int .u8 10, .int .u8 80, .int .u8 73, .int .u8 78, .int .u8 71, .int .u8 13, .int .u8 10, .int .u8 32, .int .u8 83, .int .u8 69, .int .u8 84, .int .u8 32, .int .u8 97, .int .u8 32, .int .u8 32, .int .u8 98, .int .u8 32, .int .u8 13, .int .u8 10, .int .u8 42] : Array Value) = (exBytes.map (fun x => Value.int .u8 ((x.toNat : Nat) : Int))).toArray := by kernel_rfl
  rw [e]
  simp [hj]
theorem ex_go : Rq.Go (St.new exBytes) exCmds (.more ⟨0, [], 0, [42]⟩) := by
  have h1 : Rq.step (St.new exBytes) = .ok (⟨1, [], 4, exBytes.drop 4⟩, []) := by kernel_rfl
  have h2 : Rq.step ⟨1, [], 4, exBytes.drop 4⟩ = .ok (St.new (exBytes.drop 14), [[[80, 73, 78, 71]]]) := by kernel_rfl
  have h3 : Rq.step (St.new (exBytes.drop 14)) = .ok (St.new [42], [[[83, 69, 84], [97], [98]]]) := by kernel_rfl
  have h4 : Rq.step (St.new [42]) = .error 11 := by kernel_rfl
  exact .next h1 (.next h2 (.next h3 (.stop h4)))

/-- Feed of one slice. -/
theorem feed_one (u : World) (hE : Errs u) (R : Nat) (s : St) (pv wv : Value) (p : Option Addr) (c : Nat) (l : List UInt8) (G cap : Nat) (w : World) (hR : Rdr R s pv wv w) (hu : Below u.heap.size u w) (huR : u.heap.size ≤ R)
    (hc : w.cell? ⟨G, 0, none⟩ = some (.slice p l.length c)) (hr : Rest w p c l) (hp : ∀ b o, p = some ⟨b, o, none⟩ → b ≠ R ∧ pv.ownBlock ≠ some b) (hGR : G ≠ R) (hGp : pv.ownBlock ≠ some G) (hnum : s.l.length + l.length ≤ 100000000) (htk : s.tk ≤ 100000000) :
    Calls Tryd.prog 21 #[.pointer (some ⟨R, 0, none⟩), .slice (some ⟨G, 0, none⟩) 1 cap] w (FeedV R ⟨s.c, s.ws, s.tk, s.l ++ l⟩ pv wv w) := by
  have hacc : accA s.l [⟨p, c, l⟩] 1 = s.l ++ l := by simp [accA]
  have h := feed_any u hE R s pv wv [⟨p, c, l⟩] G cap w hR hu huR (fun j hj => by
    obtain rfl : j = 0 := by simp at hj; omega
    exact ⟨hc, hr, fun b o hb => by
      have := hp b o hb
      rintro (e | e)
      · exact this.1 e
      · exact this.2 e⟩) hGR hGp (by simp) (by show (accA s.l [⟨p, c, l⟩] 1).length ≤ _; rw [hacc, List.length_append]; exact hnum) htk
  have h2 : Calls Tryd.prog 21 #[.pointer (some ⟨R, 0, none⟩), .slice (some ⟨G, 0, none⟩) 1 cap] w (FeedV R ⟨s.c, s.ws, s.tk, accA s.l [⟨p, c, l⟩] 1⟩ pv wv w) := h
  rw [hacc] at h2
  exact h2
/-- A reader that is new. -/
theorem rdr_new {w' : World} {R : Nat} (h : w'.heap[R]? = some (.cells #[.int .i64 0, .slice none 0 0, .int .i64 0, .slice none 0 0, .int .i64 0] 69 (0, 0))) : Rdr R (St.new []) (.slice none 0 0) (.slice none 0 0) w' :=
  ⟨h, World.ownsRow_nil _ _ _ _, World.ownsRow_nil _ _ _ _, fun _ => ⟨rfl, rfl, rfl⟩, fun h => absurd rfl h, Nat.zero_le _⟩

theorem CAt.below {w w' : World} {g o : Nat} {xs : List (List Wd)} (H : CAt w g o xs) (hb : Below w.heap.size w w') : CAt w' g o xs := fun j h => by
  obtain ⟨b, i, c, h1, h2⟩ := H j h
  exact ⟨b, i, c, cellBelow hb h1, h2.below hb⟩
theorem IsC.below {w w' : World} {v : Value} {xs : List (List Wd)} (H : IsC w v xs) (hb : Below w.heap.size w w') : IsC w' v xs := by
  obtain ⟨p, c, h1, h2⟩ := H
  refine ⟨p, c, h1, h2.imp id ?_⟩
  rintro ⟨g, o, h3, h4⟩
  exact ⟨g, o, h3, h4.below hb⟩

abbrev o1 : Obj := .cells #[.string ⟨#[80, 73, 78, 71]⟩] 9
abbrev o2 : Obj := .cells #[.string ⟨#[83, 69, 84]⟩, .string ⟨#[97]⟩, .string ⟨#[98]⟩] 9
abbrev o3 (k : Nat) : Obj := .cells #[.slice (some ⟨k, 0, none⟩) 1 1, .slice (some ⟨k + 1, 0, none⟩) 3 3] 50
theorem lit_rows (w : World) : IsC (((w.alloc o1).alloc o2).alloc (o3 w.heap.size)) (.slice (some ⟨w.heap.size + 2, 0, none⟩) 2 2) exCmds := by
  have h3 : (((w.alloc o1).alloc o2).alloc (o3 w.heap.size)).heap[w.heap.size + 2]? = some (o3 w.heap.size) := by simpa using heap_alloc_new ((w.alloc o1).alloc o2) (o3 w.heap.size)
  have h2 : (((w.alloc o1).alloc o2).alloc (o3 w.heap.size)).heap[w.heap.size + 1]? = some o2 := (Below.heap_alloc _ _ _ (by simp)).trans (by simpa using heap_alloc_new (w.alloc o1) o2)
  have h1 : (((w.alloc o1).alloc o2).alloc (o3 w.heap.size)).heap[w.heap.size]? = some o1 := (Below.heap_alloc _ _ _ (by simp; omega)).trans ((Below.heap_alloc _ _ _ (by simp)).trans (heap_alloc_new w o1))
  generalize (((w.alloc o1).alloc o2).alloc (o3 w.heap.size)) = W at *
  refine ⟨_, _, rfl, .inr ⟨_, _, rfl, fun j hj => ?_⟩⟩
  have hj2 : j < 2 := hj
  match j, hj2 with
  | 0, _ =>
    refine ⟨w.heap.size, 0, 1, ?_, fun k hk => ?_⟩
    · rw [Lib.cell_of_heap h3]; rfl
    · have hk2 : k < 1 := hk
      match k, hk2 with
      | 0, _ => rw [Lib.cell_of_heap h1]; rfl
  | 1, _ =>
    refine ⟨w.heap.size + 1, 0, 3, ?_, fun k hk => ?_⟩
    · rw [Lib.cell_of_heap h3]; rfl
    · have hk2 : k < 3 := hk
      match k, hk2 with
      | 0, _ => rw [Lib.cell_of_heap h2]; rfl
      | 1, _ => rw [Lib.cell_of_heap h2]; rfl
      | 2, _ => rw [Lib.cell_of_heap h2]; rfl

set_option maxRecDepth 20000 in
set_option maxHeartbeats 4000000 in
theorem awake_any (w : World) (hE : Errs w) :
    Calls Tryd.prog 19 #[] w fun e w' => e = .returned (.bool true) ∧ Below w.heap.size w w' := by
  have HE := Lib.hid hE
  clear hE
  have kc : ∀ w1 : World, (convert 22 22 (.slice (some ⟨w1.heap.size, 0, none⟩) 27 27)).run Tryd.prog (w1.alloc (.cells #[.int .u8 42, .int .u8 49, .int .u8 13, .int .u8 10, .int .u8 36, .int .u8 52, .int .u8 13, .int .u8 10, .int .u8 80, .int .u8 73, .int .u8 78, .int .u8 71, .int .u8 13, .int .u8 10, .int .u8 32, .int .u8 83, .int .u8 69, .int .u8 84, .int .u8 32, .int .u8 97, .int .u8 32, .int .u8 32, .int .u8 98, .int .u8 32, .int .u8 13, .int .u8 10, .int .u8 42] 5)) = .ok (.slice (some ⟨w1.heap.size, 0, none⟩) 27 27) (w1.alloc (.cells #[.int .u8 42, .int .u8 49, .int .u8 13, .int .u8 10, .int .u8 36, .int .u8 52, .int .u8 13, .int .u8 10, .int .u8 80, .int .u8 73, .int .u8 78, .int .u8 71, .int .u8 13, .int .u8 10, .int .u8 32, .int .u8 83, .int .u8 69, .int .u8 84, .int .u8 32, .int .u8 97, .int .u8 32, .int .u8 32, .int .u8 98, .int .u8 32, .int .u8 13, .int .u8 10, .int .u8 42] 5 (27, 28))) := fun w1 => Lib.run_convert_bytes_const (P := Tryd.prog) w1 22 5 _ 27 27 Tryd.underlying22 Tryd.underlying5
  go_enter Tryd.func19, Tryd.ntmps19
  go_wp2_with fail
  refine (new_any w).mono ?_
  rintro e w1 ⟨rfl, rfl⟩
  have hb1 := bA (Below.refl w.heap.size w) (.cells #[.int .i64 0, .slice none 0 0, .int .i64 0, .slice none 0 0, .int .i64 0] 69)
  have hbx := heap_alloc_new w (.cells #[.int .i64 0, .slice none 0 0, .int .i64 0, .slice none 0 0, .int .i64 0] 69)
  generalize w.alloc (.cells #[.int .i64 0, .slice none 0 0, .int .i64 0, .slice none 0 0, .int .i64 0] 69) = w1 at *
  have HB1 := Lib.hid hb1
  have HBX := Lib.hid hbx
  clear hb1 hbx
  go_wp2_with fail
  have hb2 := bA (bA (Below.refl w1.heap.size w1) (.cells #[.int .u8 42, .int .u8 49, .int .u8 13, .int .u8 10, .int .u8 36, .int .u8 52, .int .u8 13, .int .u8 10, .int .u8 80, .int .u8 73, .int .u8 78, .int .u8 71, .int .u8 13, .int .u8 10, .int .u8 32, .int .u8 83, .int .u8 69, .int .u8 84, .int .u8 32, .int .u8 97, .int .u8 32, .int .u8 32, .int .u8 98, .int .u8 32, .int .u8 13, .int .u8 10, .int .u8 42] 5 (27, 28))) (.cells #[.slice (some ⟨w1.heap.size, 0, none⟩) 27 27] 22)
  have hlt : w.heap.size < w1.heap.size := (Array.getElem?_eq_some_iff.1 HBX.out).1
  have HFD := Lib.hid (feed_one w HE.out w.heap.size (St.new []) (.slice none 0 0) (.slice none 0 0) (some ⟨w1.heap.size, 0, none⟩) 27 exBytes (w1.heap.size + 1) 1 ((w1.alloc (.cells #[.int .u8 42, .int .u8 49, .int .u8 13, .int .u8 10, .int .u8 36, .int .u8 52, .int .u8 13, .int .u8 10, .int .u8 80, .int .u8 73, .int .u8 78, .int .u8 71, .int .u8 13, .int .u8 10, .int .u8 32, .int .u8 83, .int .u8 69, .int .u8 84, .int .u8 32, .int .u8 97, .int .u8 32, .int .u8 32, .int .u8 98, .int .u8 32, .int .u8 13, .int .u8 10, .int .u8 42] 5 (27, 28))).alloc (.cells #[.slice (some ⟨w1.heap.size, 0, none⟩) 27 27] 22)) (rdr_new ((hb2.block _ hlt).trans HBX.out)) (bT HB1.out hb2) (Nat.le_refl _)
    (by rw [Lib.cell_of_heap (b := w1.heap.size + 1) (by simpa using heap_alloc_new (w1.alloc (.cells #[.int .u8 42, .int .u8 49, .int .u8 13, .int .u8 10, .int .u8 36, .int .u8 52, .int .u8 13, .int .u8 10, .int .u8 80, .int .u8 73, .int .u8 78, .int .u8 71, .int .u8 13, .int .u8 10, .int .u8 32, .int .u8 83, .int .u8 69, .int .u8 84, .int .u8 32, .int .u8 97, .int .u8 32, .int .u8 32, .int .u8 98, .int .u8 32, .int .u8 13, .int .u8 10, .int .u8 42] 5 (27, 28))) (.cells #[.slice (some ⟨w1.heap.size, 0, none⟩) 27 27] 22))]; rfl)
    (.inr ⟨w1.heap.size, 0, rfl, by decide, by decide, fun j hj => by
      have h1 : ((w1.alloc (.cells #[.int .u8 42, .int .u8 49, .int .u8 13, .int .u8 10, .int .u8 36, .int .u8 52, .int .u8 13, .int .u8 10, .int .u8 80, .int .u8 73, .int .u8 78, .int .u8 71, .int .u8 13, .int .u8 10, .int .u8 32, .int .u8 83, .int .u8 69, .int .u8 84, .int .u8 32, .int .u8 97, .int .u8 32, .int .u8 32, .int .u8 98, .int .u8 32, .int .u8 13, .int .u8 10, .int .u8 42] 5 (27, 28))).alloc (.cells #[.slice (some ⟨w1.heap.size, 0, none⟩) 27 27] 22)).heap[w1.heap.size]? = some (.cells #[.int .u8 42, .int .u8 49, .int .u8 13, .int .u8 10, .int .u8 36, .int .u8 52, .int .u8 13, .int .u8 10, .int .u8 80, .int .u8 73, .int .u8 78, .int .u8 71, .int .u8 13, .int .u8 10, .int .u8 32, .int .u8 83, .int .u8 69, .int .u8 84, .int .u8 32, .int .u8 97, .int .u8 32, .int .u8 32, .int .u8 98, .int .u8 32, .int .u8 13, .int .u8 10, .int .u8 42] 5 (27, 28)) := (Below.heap_alloc _ _ _ (by simp)).trans (heap_alloc_new w1 _)
      rw [Nat.zero_add, cell_of_row _ _ _ _ _ _ h1]
      exact ex_cells j hj⟩)
    (fun b o hb => by
      simp only [Option.some.injEq, Addr.mk.injEq, and_true] at hb
      obtain ⟨rfl, rfl⟩ := hb
      exact ⟨by omega, by simp [Value.ownBlock]⟩) (by omega) (by simp [Value.ownBlock]) (by decide) (by decide))
  have HB2 := Lib.hid (bT HB1.out hb2)
  have HS2 := Lib.hid hb2.size
  clear hb2
  refine HFD.out.mono ?_
  generalize (w1.alloc (.cells #[.int .u8 42, .int .u8 49, .int .u8 13, .int .u8 10, .int .u8 36, .int .u8 52, .int .u8 13, .int .u8 10, .int .u8 80, .int .u8 73, .int .u8 78, .int .u8 71, .int .u8 13, .int .u8 10, .int .u8 32, .int .u8 83, .int .u8 69, .int .u8 84, .int .u8 32, .int .u8 97, .int .u8 32, .int .u8 32, .int .u8 98, .int .u8 32, .int .u8 13, .int .u8 10, .int .u8 42] 5 (27, 28))).alloc (.cells #[.slice (some ⟨w1.heap.size, 0, none⟩) 27 27] 22) = w2 at *
  rintro e w3 ⟨xs, cv, hown, hown2, hchg, hcnew, hst⟩
  have hb3 : Below w.heap.size w w3 := hchg.on HB2.out HB2.out.size (fun k hk => by
    rcases hk with rfl | hk | hk
    · exact Nat.le_refl _
    · simp [Value.ownBlock] at hk
    · simp [Value.ownBlock] at hk)
  rcases hst with ⟨s', pv', wv', rfl, hgo, hrdr, -⟩ | ⟨x, rfl, hgo, -⟩
  · obtain ⟨hx, hs⟩ := hgo.det ex_go
    obtain rfl : s' = ⟨0, [], 0, [42]⟩ := by cases hs; rfl
    obtain ⟨q, d, rfl, -⟩ := own_rest hrdr.rest
    have hbox : Box w3 w.heap.size 0 (.slice q 1 d) 0 wv' 0 := hrdr.box
    have HIS := Lib.hid (hx ▸ told_is hown hown2 : IsC w3 cv exCmds)
    have HB3 := Lib.hid hb3
    have HBOX := Lib.hid hbox
    have HSM := Lib.hid (same_any exCmds exCmds (by decide) (by decide) cv (.slice (some ⟨w3.heap.size + 2, 0, none⟩) 2 2) (((w3.alloc o1).alloc o2).alloc (o3 w3.heap.size)) (HIS.out.below (bA (bA (bA (Below.refl _ _) _) _) _)) (lit_rows w3))
    clear hown hown2 hchg hcnew hgo hrdr hb3 hx hs hbox hlt
    go_wp2_with fail
    refine HSM.out.mono ?_
    rintro e w4 ⟨rfl, hb4⟩
    have hb5 := bT (bA (bA (bA (Below.refl w3.heap.size w3) o1) o2) (o3 w3.heap.size)) hb4
    have HB5 := Lib.hid hb5
    simp only [decide_true]
    have HWT := Lib.hid (waiting_any w.heap.size 0 q 1 d 0 wv' 0 (by decide) (by decide) w4 (HBOX.out.below hb5))
    clear hb4 hb5
    go_wp2_with fail
    refine HWT.out.mono ?_
    rintro e w5 ⟨rfl, hb6⟩
    have HB6 := Lib.hid hb6
    clear hb6
    go_wp2
    go_ret
    exact ⟨rfl, bT (bT HB3.out HB5.out) HB6.out⟩
  · have := (hgo.det ex_go).2
    cases this
end Go.Proofs.YtcikelcecfapcaaDoor
