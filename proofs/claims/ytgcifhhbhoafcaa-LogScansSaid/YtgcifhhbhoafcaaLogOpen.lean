/-
  Open.
-/
import Derived.Test.YtgcifhhbhoafcaaLogReplay
namespace Go.Proofs.Ytgcifhhbhoafcaa
open Go.RowKit Go.Shelf

/-- What Open makes: the log and its entries. -/
structure Opened (w w' : World) (P D f N : Nat) (Bs : List Sec) (after : Nat) (v : Value) (E : List Ent) : Prop where
  row : w'.ownsRow w.heap.size 48 2 v E.length (eCells E)
  ents : ∀ x ∈ E, EntNew w' w.heap.size x
  log : LogAt w' P D f N (usedS (E.map (·.body))) (after + E.length) false
  fit : usedS (E.map (·.body)) ≤ N
  st : Stamps after E
  bodies : E.map (·.body) = scan (N + 1) Bs after

theorem owns_low {w : World} {lo lo' : Nat} {e : TypeId} {sz : Nat} {v : Value} {n : Nat} {xs : List Value} (h : w.ownsRow lo e sz v n xs) (hl : lo' ≤ lo) : w.ownsRow lo' e sz v n xs := by
  refine ⟨h.1, ?_⟩
  rcases h.2 with h0 | ⟨gr, cap, cur, rfl, hb, rest⟩
  · exact .inl h0
  · exact .inr ⟨gr, cap, cur, rfl, Nat.le_trans hl hb, rest⟩
set_option maxHeartbeats 2000000 in
theorem open_any (D g : Nat) (S : List Sec) (v0 : Value) (ws : List Wq) (c : Int) (hl : -9223372036854775808 ≤ c ∧ c ≤ 9223372036854775807) (hcz : c ≠ 0) (hws : ws.length ≤ 1000000) (f N after : Nat) (h1N : 1 ≤ N) (hfN : f + N ≤ S.length) (hN : N ≤ 15000) (ha : after ≤ 1152921504606846975) (w : World) (H : DiskAt w D g S v0 ws c) (hDg : D ≠ g) :
    Calls Try.prog 13 #[.pointer (some ⟨D, 0, none⟩), .int .i64 f, .int .i64 N, .int .i64 after] w fun e w' => ∃ P v E, e = .returned (.tuple #[.pointer (some ⟨P, 0, none⟩), v, .int .i64 0]) ∧ w.heap.size ≤ P ∧ Opened w w' P D f N (partS (doneS S ws) f N) after v E ∧ DiskAt w' D g S v0 ws (less c) ∧ Chg (fun k => k = D) w w' := by
  have hNf := H.few
  have hrd := Go.Proofs.Ytgcifhhbhoafcaa.read_any D g S v0 ws c hl hcz hws f N h1N hfN w H hDg
  have hplen : (partS (doneS S ws) f N).length = N := partS_len (by rw [doneS_len]; exact hfN)
  have hp64 : ∀ s ∈ partS (doneS S ws) f N, s.length = 64 := partS_64 (doneS_64 H.s64 (fun x hx => (H.a64 x hx).2))
  have hvb : ∀ k, v0.ownBlock = some k → k < w.heap.size := fun k hk => (H.row.lt k hk).2
  have hDl : D < w.heap.size := (Array.getElem?_eq_some_iff.1 H.box).1
  have hgl : g < w.heap.size := (Array.getElem?_eq_some_iff.1 H.dur).1
  obtain ⟨Bs, hBs⟩ : ∃ Bs, partS (doneS S ws) f N = Bs := ⟨_, rfl⟩
  rw [hBs] at hrd hplen hp64 ⊢
  have d1 : decide ((after : Int) < 0) = false := decide_eq_false (by omega)
  have d2 : decide ((1152921504606846975 : Int) < (after : Int)) = false := decide_eq_false (by omega)
  have d2' : decide (1152921504606846975 < after) = false := decide_eq_false (by omega)
  have HPL := Lib.hid hplen
  clear H hBs hplen
  go_enter Try.func13, Try.ntmps13
  go_wp2_with fail
  refine hrd.mono ?_
  clear hrd
  rintro e w1 ⟨R, rfl, hR, hRl, hd1, hc1⟩
  have HR := Lib.hid hR
  have HD1 := Lib.hid hd1
  have HC1 := Lib.hid hc1
  clear hR hd1 hc1
  go_wp2_with fail
  have hw2 := heap_new w1 (.cells (logC D f N 0 after false) 86)
  have hc2 := Chg.alloc (fun _ => False) w1 (.cells (logC D f N 0 after false) 86)
  have hs1 := HC1.out.size
  have hs2 : (w1.alloc (.cells (logC D f N 0 after false) 86)).heap.size = w1.heap.size + 1 := by simp
  have hD2 := HD1.out.chg hc2 (fun e => e) (fun e => e) (fun _ _ e => e)
  have hR1 : R < w1.heap.size := (Array.getElem?_eq_some_iff.1 HR.out).1
  have hrp := replay_any w1.heap.size D f N after R Bs hp64 HPL.out hN ha (w1.alloc (.cells (logC D f N 0 after false) 86)) hw2 (hc2.box HR.out (fun e => e)) (by omega)
  have HC2 := Lib.hid hc2
  have HS2 := Lib.hid hs2
  have HD2 := Lib.hid hD2
  unfold logC at hrp HC2 HS2 HD2
  clear hw2 hc2 hs2 hD2
  refine hrp.mono ?_
  rintro e w3 ⟨v, E, rfl, hinv, hsc⟩
  have HI := Lib.hid hinv
  have HSC := Lib.hid hsc
  clear hinv hsc hrp
  go_wp2
  refine bodyPost_ret (results_tmp3 rfl _ _ _) rfl ?_
  have h2 := HS2.out
  have hc3 := HI.out.chg
  refine ⟨w1.heap.size, v, E, rfl, hs1, ⟨owns_low HI.out.row (by omega), fun x hx => ?_, HI.out.log, HI.out.few.2, HI.out.st, HSC.out⟩, HD2.out.chg hc3 (fun e => ?_) (fun e => ?_) (fun k hk e => ?_), ?_⟩
  · obtain ⟨gb, h3, h4, h5⟩ := HI.out.ents x hx
    exact ⟨gb, h3, by omega, h5⟩
  · have e' : D = w1.heap.size := e
    omega
  · have e' : g = w1.heap.size := e
    omega
  · have e' : k = w1.heap.size := e
    have := hvb k hk
    omega
  · exact (HC1.out.trans (HC2.out.weaken (fun k _ e => e.elim))).trans2 hc3 (fun k hk e => by
      have e' : k = w1.heap.size := e
      omega)
end Go.Proofs.Ytgcifhhbhoafcaa
