/-
  What was appended with OK outlives every crash.
-/
import Derived.Test.YtnnpfehfoaojfaaLogKeepB
namespace Go.Proofs.Ytnnpfehfoaojfaa
open Go.RowKit Go.Shelf
attribute [local go_sem] Oper.semAt_some

/-- The state of a script. -/
structure KSt (w wr : World) (P D g k after : Nat) (sv : Value) (SE : List Ent) (uv : Value) (UE : List Ent) : Prop where
  log : KLog w wr P D g k after (SE.map (·.body)) (UE.head?.map (·.body))
  row : KRow w wr sv SE uv UE
  st : Stamps after SE
  few : UE.length ≤ 1
  ust : ∀ x ∈ UE, x.st = after + SE.length + 1
  nil : UE = [] → uv = .slice none 0 0

theorem KSt.on {w wr w' : World} {P D g k after : Nat} {sv uv : Value} {SE UE : List Ent} (H : KSt w wr P D g k after sv SE uv UE) (hb : Below wr.heap.size wr w') : KSt w w' P D g k after sv SE uv UE := ⟨H.log.on hb, H.row.on hb, H.st, H.few, H.ust, H.nil⟩
theorem made_below {w5 w6 : World} {o : Obj} (hg : (w5.alloc o).grownBy w6 (Value.slice (some ⟨w5.heap.size, 0, none⟩) 0 0).ownBlock) : Below w5.heap.size w5 w6 := by
  have hc := Chg.grown hg
  exact hc.on (bA (Below.refl _ _) o) (by simp) (fun k hk => by
    have e : some k = some w5.heap.size := hk
    cases e
    exact Nat.le_refl _)
theorem grown_below {w5 w6 w7 : World} {v6 : Value} {n : Nat} {xs : List Value} (hb : Below w5.heap.size w5 w6) (hr : w6.ownsRow w5.heap.size 51 2 v6 n xs) (hg : w6.grownBy w7 v6.ownBlock) : Below w5.heap.size w5 w7 :=
  (Chg.grown hg).on hb hb.size (fun k hk => (hr.lt k hk.symm).1)
theorem more_row {w7 : World} {lo sn un : Nat} {v7 : Value} {SE UE : List Ent} (h1 : sn = SE.length) (h2 : un = UE.length) (hr : w7.ownsRow lo 51 2 v7 (0 + sn + un) (([] ++ eCells SE) ++ eCells UE)) (hs : ∀ x ∈ SE, InAt w7 x.p x.body) (hu : ∀ x ∈ UE, InAt w7 x.p x.body) : ∃ p c, v7 = .slice p (0 + sn + un) c ∧ EntRow w7 p (SE ++ UE) := by
  have hl : 0 + sn + un = (SE ++ UE).length := by rw [List.length_append]; omega
  rw [List.nil_append, ← eCells_app, hl] at hr
  rw [hl]
  exact row_of_owns hr (fun x hx => by
    rcases List.mem_append.1 hx with h | h
    · exact hs x h
    · exact hu x h)
theorem same_of {after : Nat} {E F : List Ent} (hE : Stamps after E) (hF : Stamps after F) (hb : E.map (·.body) = F.map (·.body)) : SameE E F := by
  have hl : E.length = F.length := by
    have := congrArg List.length hb
    simpa using this
  refine ⟨hl, fun i h h' => ⟨by rw [hE i h, hF i h'], ?_⟩⟩
  have := congrArg (fun l => l[i]?) hb
  simpa [List.getElem?_map, List.getElem?_eq_getElem h, List.getElem?_eq_getElem h'] using this
theorem same_under {after : Nat} {E SE UE : List Ent} (hE : Stamps after E) (hS : Stamps after SE) (hu : ∀ x ∈ UE, x.st = after + SE.length + 1) {x : Ent} (hx : UE = [x]) (hb : E.map (·.body) = SE.map (·.body) ++ [x.body]) : SameE E (SE ++ UE) := by
  subst hx
  refine same_of hE (hS.snoc x ?_) (by rw [hb]; simp)
  have := hu x List.mem_cons_self
  omega
theorem head_none {UE : List Ent} (h : UE.head?.map (·.body) = none) : UE = [] := by
  cases UE with
  | nil => rfl
  | cons x l => simp at h
theorem head_some {UE : List Ent} (h : (UE.head?.map (·.body)).isSome = true) : UE ≠ [] := by
  cases UE with
  | nil => simp at h
  | cons x l => simp
/-- An entry whose body came in. -/
theorem x_ok {w W1 w6 W3 : World} {ex : Nat → Prop} {bp : Option Addr} {body : List UInt8} {st cp : Nat} (h1 : InAt W1 bp body) (h2 : ∀ b o, bp = some ⟨b, o, none⟩ → 0 < body.length → b < w.heap.size) (hc : Chg ex W1 w6) (ho : Other w W1 ex) (hb : Below w6.heap.size w6 W3) : BodyOk w W3 ⟨st, bp, cp, body⟩ := by
  have h : BodyOk w W1 ⟨st, bp, cp, body⟩ := ⟨h1, fun b o e hl => .inl (h2 b o e hl)⟩
  refine (h.chg hc (fun b hb => ?_)).chg (Chg.below hb (fun _ => False)) (fun _ e => e.elim)
  obtain ⟨h3, c, t, fr, h4, _, h5⟩ := ho b hb
  exact ⟨h3, c, t, fr, h4, h5⟩
theorem grow_ok {w W1 w6 W3 w7 : World} {P D g k after sn un bl lz lz1 : Nat} {sp up : Option Addr} {sc uc bc : Nat} {bp : Option Addr} {body : List UInt8} {SE UE : List Ent} {v7 : Value} (H : KSt w W1 P D g k after (.slice sp sn sc) SE (.slice up un uc) UE) (hue : UE = []) (h1 : sn = SE.length) (h2 : un = UE.length)
    (hk : KLog w w6 P D g k after (SE.map (·.body) ++ [body]) none) (hr : KRow w w6 (.slice sp sn sc) SE (.slice up un uc) UE) (hb : Below w6.heap.size w6 W3) (hx : BodyOk w W3 ⟨lz1, bp, bc, body⟩) (hlz : lz = after + sn) (hlz1 : lz1 = lz + 1) (hbl : bl = body.length)
    (hrow : w7.ownsRow w.heap.size 51 2 v7 (sn + 1) (eCells SE ++ [.int .i64 (lz1 : Int), .slice bp bl bc])) (hg : (W3.alloc (.cells #[.int .i64 (lz1 : Int), .slice bp bl bc] 51)).grownBy w7 (Value.slice sp sn sc).ownBlock) :
    ∃ p7 c7, v7 = .slice p7 (sn + 1) c7 ∧ KSt w w7 P D g k after (.slice p7 (sn + 1) c7) (SE ++ [⟨lz1, bp, bc, body⟩]) (.slice up un uc) UE := by
  subst hue
  have hun := H.nil rfl
  rw [hun] at hr ⊢
  have hb4 : Below w6.heap.size w6 (W3.alloc (.cells #[.int .i64 (lz1 : Int), .slice bp bl bc] 51)) := bT hb (bA (Below.refl _ _) _)
  have hr4 := hr.on hb4
  have hx4 := hx.chg (Chg.below (bA (Below.refl W3.heap.size W3) (.cells #[.int .i64 (lz1 : Int), .slice bp bl bc] 51)) (fun _ => False)) (fun _ e => e.elim)
  have hr7 : KRow w w7 v7 (SE ++ [⟨lz1, bp, bc, body⟩]) (.slice none 0 0) [] := hr4.snoc ⟨lz1, bp, bc, body⟩ hx4 hg (by
    rw [← h1]
    have e : eCell ⟨lz1, bp, bc, body⟩ = [.int .i64 (lz1 : Int), .slice bp bl bc] := by rw [hbl]; rfl
    rw [e]
    exact hrow)
  have hk7 : KLog w w7 P D g k after (SE.map (·.body) ++ [body]) none := (hk.on hb4).chg (Chg.grown hg) (fun b hb' => by
    refine ⟨(hr4.srow.lt b hb'.symm).1, ?_⟩
    rcases hr4.srow.2 with ⟨hv, _⟩ | ⟨gr, cap, cur, hv, _, hg', _⟩
    · rw [hv] at hb'
      cases hb'
    · rw [hv] at hb'
      cases hb'
      exact ⟨_, _, hg'⟩)
  obtain ⟨p7, c7, hv7, _⟩ := hr7.sent
  have hl : (SE ++ [(⟨lz1, bp, bc, body⟩ : Ent)]).length = sn + 1 := by rw [List.length_append, h1]; rfl
  rw [hl] at hv7
  subst hv7
  exact ⟨p7, c7, rfl, ⟨by simpa using hk7, hr7, H.st.snoc _ (by show lz1 = _; omega), by simp, fun x hx => by simp at hx, fun _ => rfl⟩⟩
theorem fail_ok {w W1 w6 W5 : World} {P D g k after sn un bl lz lz1 : Nat} {sp up : Option Addr} {sc uc bc : Nat} {bp : Option Addr} {body : List UInt8} {SE UE : List Ent} (H : KSt w W1 P D g k after (.slice sp sn sc) SE (.slice up un uc) UE)
    (hk : KLog w w6 P D g k after (SE.map (·.body)) (some body)) (hr : KRow w w6 (.slice sp sn sc) SE (.slice up un uc) UE) (hb : Below w6.heap.size w6 W5) (hi : InAt W1 bp body) (hi2 : ∀ b o, bp = some ⟨b, o, none⟩ → 0 < body.length → b < w.heap.size) (hc : Chg (fun b => b = P ∨ b = D ∨ b = g) W1 w6) (hlz : lz = after + sn) (hlz1 : lz1 = lz + 1) (h1 : sn = SE.length) (hbl : bl = body.length) :
    KSt w (W5.alloc (.cells #[.int .i64 (lz1 : Int), .slice bp bl bc] 51)) P D g k after (.slice sp sn sc) SE (.slice (some ⟨W5.heap.size, 0, none⟩) 1 1) [⟨lz1, bp, bc, body⟩] := by
  subst hbl
  have hx : BodyOk w W5 ⟨lz1, bp, bc, body⟩ := x_ok hi hi2 hc H.log.others hb
  have hr5 := (hr.on hb).under (hk.on hb).below.size ⟨lz1, bp, bc, body⟩ hx
  refine ⟨?_, hr5, H.st, by simp, fun x hx => ?_, fun h => by simp at h⟩
  · exact (hk.on hb).on (bA (Below.refl _ _) _)
  · rw [List.mem_singleton.1 hx]
    show lz1 = _
    omega
theorem one_of {UE : List Ent} (hf : UE.length ≤ 1) {b : List UInt8} (hb : UE.head?.map (·.body) = some b) : ∃ x, UE = [x] ∧ x.body = b := by
  match UE, hb, hf with
  | [x], hb, _ => exact ⟨x, rfl, by simpa using hb⟩

set_option maxRecDepth 20000 in
set_option maxHeartbeats 8000000 in
theorem keeps_walk (n : Int) (pb : Option Addr) (cb : Nat) (al : List AArg) (w : World) (hx : ActsAt w pb al) :
    Calls Try.prog 4 #[.int .i64 n, .slice pb al.length cb] w fun e w' => e = .returned (.bool true) ∧ Below w.heap.size w w' := by
  have HX := Lib.hid hx
  obtain ⟨N, hN⟩ : ∃ N, N = al.length := ⟨_, rfl⟩
  have HN := Lib.hid hN
  rw [← hN]
  clear hx hN
  by_cases hbig : 30 < N
  · have d1 : decide ((30 : Int) < (N : Int)) = true := decide_eq_true (by omega)
    have d1' : decide (30 < N) = true := decide_eq_true hbig
    go_enter Try.func4, Try.ntmps4
    go_wp2_with fail
    refine (awake_true w).mono ?_
    rintro e w1 ⟨rfl, hb1⟩
    have HB1 := Lib.hid hb1
    clear hb1
    go_wp2_with fail
    refine (awake_true w1).mono ?_
    rintro e w2 ⟨rfl, hb2⟩
    have HB2 := Lib.hid hb2
    clear hb2
    go_wp2
    go_ret
    exact ⟨rfl, bT HB1.out HB2.out⟩
  have d1 : decide ((30 : Int) < (N : Int)) = false := decide_eq_false (by omega)
  have d1' : decide (30 < N) = false := decide_eq_false hbig
  obtain ⟨m2, hm2⟩ : ∃ m2 : Nat, n.tmod 30 + 30 = (m2 : Int) := by
    have h2 := Int.lt_tmod_of_pos n (b := 30) (by decide)
    exact ⟨(n.tmod 30 + 30).toNat, by omega⟩
  have hm2b : m2 < 60 := by
    have h1 := Int.tmod_lt_of_pos n (b := 30) (by decide)
    omega
  obtain ⟨m3, hm3⟩ : ∃ m3, m3 = m2 % 30 := ⟨_, rfl⟩
  obtain ⟨k, hk⟩ : ∃ k, k = 1 + m3 := ⟨_, rfl⟩
  have hk1 : 1 ≤ k := by omega
  have hk2 : k ≤ 30 := by omega
  have q1 : wrap64 (n.tmod 30 + 30) = (m2 : Int) := by
    rw [hm2]
    unfold wrap64
    omega
  have q2 : ((m2 : Nat) : Int).tmod 30 = (m3 : Int) := by
    rw [Int.tmod_eq_emod_of_nonneg (by omega)]
    omega
  have q3 : (1 : Int) + (m3 : Int) = (k : Int) := by omega
  have hm3b : m3 < 30 := by omega
  clear hm2 hm3 hk
  go_enter Try.func4, Try.ntmps4
  go_wp2_with fail
  refine (awake_true w).mono ?_
  rintro e w1 ⟨rfl, hb1⟩
  have HB1 := Lib.hid hb1
  clear hb1
  go_wp2_with fail
  refine (new_any k hk1 (by omega) w1).mono ?_
  rintro e w2 ⟨rfl, hd2, hb2⟩
  have hzl : (zeroS k).length = k := zero_cells
  have hb2w : Below w.heap.size w w2 := bT HB1.out hb2
  have hws := HB1.out.size
  obtain ⟨D, hD⟩ : ∃ D, w1.heap.size + 1 = D := ⟨_, rfl⟩
  obtain ⟨g, hg⟩ : ∃ g, w1.heap.size = g := ⟨_, rfl⟩
  rw [hD, hg] at hd2
  rw [hD]
  have hDg : D ≠ g := by omega
  have hbase : w.heap.size ≤ D ∧ w.heap.size ≤ g := by omega
  have hl2 : D < w2.heap.size ∧ g < w2.heap.size := ⟨(Array.getElem?_eq_some_iff.1 hd2.box).1, (Array.getElem?_eq_some_iff.1 hd2.dur).1⟩
  have hop := open_any D g (zeroS k) (.slice none 0 0) [] (-1) (by decide) (by decide) (by simp) 0 k 0 hk1 (by rw [hzl]; omega) (by omega) (fun x hx => by simp at hx) (by decide) w2 hd2 hDg
  rw [partS_all _ _ hzl] at hop
  have HB2 := Lib.hid hb2w
  clear hb2 hb2w hd2 hD hg
  go_wp2_with fail
  refine hop.mono ?_
  clear hop
  rintro e w3 ⟨P0, v, E, rfl, hP, hO, hd3, hc3⟩
  have hkl := (KLog.opened HB2.out hbase hDg hzl hl2 hP hO hd3 hc3 (Holds.zero k 0 (by decide))).2
  have HST := Lib.hid (show KSt w w3 P0 D g k 0 (.slice none 0 0) [] (.slice none 0 0) [] from ⟨hkl, ⟨World.ownsRow_nil _ _ _ _, fun x hx => by simp at hx, World.ownsRow_nil _ _ _ _, fun x hx => by simp at hx⟩, fun i h => by simp at h, by simp, fun x hx => by simp at hx, fun _ => rfl⟩)
  clear hkl hO hd3 hc3 hzl hl2 hP
  go_wp2
  go_loopw [8, 11, 12, 13, 14] (fun s8 s11 s12 s13 s14 wr => ∃ i P after sn un : Nat, ∃ sp up sc uc, ∃ SE UE, i ≤ N + 1 ∧ s14 = .int .i64 i ∧ s8 = .pointer (some ⟨P, 0, none⟩) ∧ s11 = .int .i64 after ∧ s12 = .slice sp sn sc ∧ s13 = .slice up un uc ∧ Hid (sn = SE.length ∧ un = UE.length) ∧ Hid (after + sn ≤ i) ∧ Hid (KSt w wr P D g k after (.slice sp sn sc) SE (.slice up un uc) UE)) (fun _ _ _ _ s14 _ => N + 1 - (intOf s14).toNat)
  case atStart => exact ⟨0, P0, 0, 0, 0, none, none, 0, 0, [], [], by omega, rfl, rfl, rfl, rfl, rfl, Lib.hid ⟨rfl, rfl⟩, Lib.hid (by omega), HST⟩
  case round =>
    obtain ⟨i, P, after, sn, un, sp, up, sc, uc, SE, UE, hi, rfl, rfl, rfl, rfl, rfl, HLEN, HAF, HS⟩ := hrel
    clear HST
    by_cases hle : i ≤ N
    · have e1 : decide ((i : Int) ≤ (N : Int)) = true := decide_eq_true (by omega)
      have e1' : decide (i ≤ N) = true := decide_eq_true hle
      by_cases hlt : i < N
      · have e2 : decide ((i : Int) < (N : Int)) = true := decide_eq_true (by omega)
        have e2' : decide (i < N) = true := decide_eq_true hlt
        have hil : i < al.length := by have := HN.out; omega
        obtain ⟨hact, b, o, rfl, hcells⟩ := HX.out i hil
        obtain ⟨a, ha⟩ : ∃ a, al[i] = a := ⟨_, rfl⟩
        rw [ha] at hact hcells
        unfold ActIn at hact
        have hbl : Below w.heap.size w wr := HS.out.log.below
        have hc0 := (hcells 0 (by decide)).trans (show (aCell a)[0]? = some (.int .i64 a.kind) from rfl)
        have hc1 := (hcells 1 (by decide)).trans (show (aCell a)[1]? = some (.int .i64 a.stamp) from rfl)
        have hc2 := (hcells 2 (by decide)).trans (show (aCell a)[2]? = some (.slice a.bp a.body.length a.bc) from rfl)
        have hc3 := (hcells 3 (by decide)).trans (show (aCell a)[3]? = some (.slice a.kp a.ks.length a.kc) from rfl)
        have hbw : b < w.heap.size := World.block_lt_of_cell? w _ hc0
        obtain ⟨A, hA⟩ : ∃ A, wr.heap.size = A := ⟨_, rfl⟩
        obtain ⟨w0, hw0⟩ : ∃ w0, wr.alloc (.cells #[.int .i64 3, .int .i64 0, .slice none 0 0, .slice none 0 0] 49) = w0 := ⟨_, rfl⟩
        have hb0 : Below w.heap.size w w0 := by rw [← hw0]; exact hbl.alloc hbl.size _
        have hA0 : w0.heap[A]? = some (.cells #[.int .i64 3, .int .i64 0, .slice none 0 0, .slice none 0 0] 49 (0, 0)) := by rw [← hw0, ← hA]; exact heap_new wr _
        have g0 := (hb0.cell (p := ⟨b, o + i * 4 + 0, none⟩) hbw).trans hc0
        have g1 := (hb0.cell (p := ⟨b, o + i * 4 + 1, none⟩) hbw).trans hc1
        have g2 := (hb0.cell (p := ⟨b, o + i * 4 + 2, none⟩) hbw).trans hc2
        have g3 := (hb0.cell (p := ⟨b, o + i * 4 + 3, none⟩) hbw).trans hc3
        rw [Nat.add_zero] at g0
        obtain ⟨bl, hbl0⟩ : ∃ bl, bl = a.body.length := ⟨_, rfl⟩
        obtain ⟨kl, hkl0⟩ : ∃ kl, kl = a.ks.length := ⟨_, rfl⟩
        rw [← hbl0] at g2
        rw [← hkl0] at g3
        have fz0 := frozen_in hA0 0
        have fz1 := frozen_in hA0 1
        have fz2 := frozen_in hA0 2
        have fz3 := frozen_in hA0 3
        have x0 : w0.cell? ⟨A, 0, none⟩ = some (.int .i64 3) := by rw [cell_in hA0]; rfl
        have x1 : w0.cell? ⟨A, 1, none⟩ = some (.int .i64 0) := by rw [cell_in hA0]; rfl
        have x2 : w0.cell? ⟨A, 2, none⟩ = some (.slice none 0 0) := by rw [cell_in hA0]; rfl
        have x3 : w0.cell? ⟨A, 3, none⟩ = some (.slice none 0 0) := by rw [cell_in hA0]; rfl
        generalize hKD : a.kind = kd at *
        generalize hSD : a.stamp = sd at *
        generalize hBP : a.bp = bp at *
        generalize hBC : a.bc = bc at *
        generalize hKP : a.kp = kp at *
        generalize hKC : a.kc = kc at *
        have HACT := Lib.hid hact
        have HB0 := Lib.hid hb0
        have HA0 := Lib.hid hA0
        have HBL0 := Lib.hid hbl0
        have HKL0 := Lib.hid hkl0
        have HBL := Lib.hid hbl
        subst hw0
        subst hA
        clear hact hcells hc0 hc1 hc2 hc3 hb0 hA0 hbl0 hkl0 hbl
        have j0 : (0 : Int) ≤ (i : Int) := by omega
        have j1 : (i : Int) < (N : Int) := by omega
        obtain ⟨W1, hW1⟩ : ∃ W1, wr.alloc (.cells #[.int .i64 kd, .int .i64 sd, .slice bp bl bc, .slice kp kl kc] 49) = W1 := ⟨_, rfl⟩
        have hb1' : Below wr.heap.size wr W1 := by rw [← hW1]; exact bA (Below.refl _ _) _
        have hA1 : W1.heap[wr.heap.size]? = some (.cells #[.int .i64 kd, .int .i64 sd, .slice bp bl bc, .slice kp kl kc] 49 (0, 0)) := by rw [← hW1]; exact heap_new wr _
        have HS1 := Lib.hid (show KSt w W1 P D g k after (.slice sp sn sc) SE (.slice up un uc) UE from ⟨HS.out.log.on hb1', HS.out.row.on hb1', HS.out.st, HS.out.few, HS.out.ust, HS.out.nil⟩)
        have hbin : InAt W1 bp a.body := (HACT.out.1.on HBL.out).on hb1'
        have hbk : IntsAt W1 kp a.ks := fun j hj => by
          obtain ⟨b', o', hp, hc⟩ := HACT.out.2.2.2 j hj
          have hl := World.block_lt_of_cell? w _ hc
          exact ⟨b', o', hp, (hb1'.cell (p := ⟨b', o' + j, none⟩) (Nat.lt_of_lt_of_le hl HBL.out.size)).trans ((HBL.out.cell (p := ⟨b', o' + j, none⟩) hl).trans hc)⟩
        have hbp : ∀ b' o', bp = some ⟨b', o', none⟩ → 0 < a.body.length → b' < w.heap.size := fun b' o' e hl => InAt.lt (b := b') (o := o') (by rw [← e]; exact HACT.out.1) hl
        have HIN := Lib.hid (show _ ∧ _ ∧ _ ∧ _ from ⟨hbin, hbk, hbp, HACT.out⟩)
        have HA1 := Lib.hid hA1
        have HB1' := Lib.hid hb1'
        have HW1 := Lib.hid hW1
        have HBK := Lib.hid (show Below w.heap.size w W1 from HS1.out.log.below)
        clear HACT hbin hbk hbp hA1 hb1' hW1
        by_cases hb600 : 600 < bl
        · have f1 : decide ((600 : Int) < (bl : Int)) = true := decide_eq_true (by omega)
          have f1' : decide (600 < bl) = true := decide_eq_true hb600
          go_wp2
          go_ret
          rw [HW1.out]
          exact ⟨rfl, HBK.out⟩
        have f1 : decide ((600 : Int) < (bl : Int)) = false := decide_eq_false (by omega)
        have f1' : decide (600 < bl) = false := decide_eq_false hb600
        by_cases hk40 : 40 < kl
        · have f2 : decide ((40 : Int) < (kl : Int)) = true := decide_eq_true (by omega)
          have f2' : decide (40 < kl) = true := decide_eq_true hk40
          go_wp2
          go_ret
          rw [HW1.out]
          exact ⟨rfl, HBK.out⟩
        have f2 : decide ((40 : Int) < (kl : Int)) = false := decide_eq_false (by omega)
        have f2' : decide (40 < kl) = false := decide_eq_false hk40
        obtain ⟨lz, hlz⟩ : ∃ lz, lz = after + sn := ⟨_, rfl⟩
        have HLZ := Lib.hid hlz
        have hlzb : lz ≤ 32 := by have := HAF.out; omega
        have HML := Lib.hid (show (SE.map (·.body)).length = sn by rw [List.length_map]; exact HLEN.out.1.symm)
        have HTY := Lib.hid (show ¬ (wr.heap.size = P ∨ wr.heap.size = D ∨ wr.heap.size = g) from HS1.out.log.types HA1.out (by decide) (by decide) (by decide))
        clear hlz
        by_cases hk0 : kd = 0
        · subst hk0
          go_wp2
          rw [HW1.out]
          have HCA := Lib.hid (fun (X : World) (h : X.heap[wr.heap.size]? = some (.cells #[.int .i64 0, .int .i64 sd, .slice bp bl bc, .slice kp kl kc] 49 (0, 0))) => (show X.cell? ⟨wr.heap.size, 2, none⟩ = some (.slice bp bl bc) by rw [cell_in h]; rfl))
          have HLAST := Lib.hid (fun (X : World) (hX : Below W1.heap.size W1 X) => (by
            have h := (HS1.out.on hX).log.last
            rw [HML.out, ← HLZ.out] at h
            exact h : Calls Try.prog 16 #[.pointer (some ⟨P, 0, none⟩)] X fun e w' => e = .returned (.int .i64 (lz : Int)) ∧ X = w'))
          have hblo := HS1.out.log.base
          have happ := (HS1.out.on (bD (Below.refl W1.heap.size W1))).log.append (by rw [HML.out]; have := HLZ.out; omega) bp bc a.body (by have := HBL0.out; omega) HIN.out.2.2.2.2.1 HIN.out.2.2.2.2.2.1 (HIN.out.1.on (bD (Below.refl W1.heap.size W1))) (fun b' o' e hl => by have := HIN.out.2.2.1 b' o' e hl; omega)
          rw [HML.out, ← HLZ.out, ← HBL0.out] at happ
          have HAPP := Lib.hid (show Calls Try.prog 18 #[.pointer (some ⟨P, 0, none⟩), .int .i64 ((lz : Int) + 1), .slice bp bl bc] W1.drew fun e w' => ∃ ee : Int, e = .returned (.int .i64 ee) ∧ w'.heap[wr.heap.size]? = some (.cells #[.int .i64 0, .int .i64 sd, .slice bp bl bc, .slice kp kl kc] 49 (0, 0)) ∧ Chg (fun b => b = P ∨ b = D ∨ b = g) W1 w' ∧
              ((ee = 0 ∧ UE = [] ∧ KLog w w' P D g k after (SE.map (·.body) ++ [a.body]) none) ∨ (ee = 22 ∧ KLog w w' P D g k after (SE.map (·.body)) (UE.head?.map (·.body))) ∨ (ee = 20 ∧ UE ≠ [] ∧ KLog w w' P D g k after (SE.map (·.body)) (UE.head?.map (·.body))) ∨ (ee = 20 ∧ UE = [] ∧ KLog w w' P D g k after (SE.map (·.body)) (some a.body))) from by
            refine happ.mono ?_
            rintro e w' ⟨hc, h⟩
            have hc' : Chg (fun b => b = P ∨ b = D ∨ b = g) W1 w' := (Chg.drew _ W1).trans hc
            have hbx := hc'.box HA1.out HTY.out
            rcases h with ⟨rfl, h1, h2⟩ | ⟨rfl, h2⟩ | ⟨rfl, h1, h2⟩ | ⟨rfl, h1, h2⟩
            · exact ⟨0, rfl, hbx, hc', .inl ⟨rfl, head_none h1, h2⟩⟩
            · exact ⟨22, rfl, hbx, hc', .inr (.inl ⟨rfl, h2⟩)⟩
            · exact ⟨20, rfl, hbx, hc', .inr (.inr (.inl ⟨rfl, head_some h1, h2⟩))⟩
            · exact ⟨20, rfl, hbx, hc', .inr (.inr (.inr ⟨rfl, head_none h1, h2⟩))⟩)
          clear happ
          have hlw : IntKind.i64.wrap ((lz : Int) + 1) = (lz : Int) + 1 := by rw [IntKind.wrap_i64]; omega
          refine wp_region_noPanic ?_
          refine wp_region_held_drew (S := fun X => X.cell? ⟨wr.heap.size, 2, none⟩ = some (.slice bp bl bc)) (by kernel_rfl) (HCA.out W1.drew HA1.out) (fun hHeld => ?_)
          refine wpAnyH_take (i := 0) (v := ?_) rfl (by kernel_rfl) (by kernel_rfl) (by kernel_rfl) (fun _ _ _ h => h) (Or.inl ⟨by rfl, ?_⟩) (by assumption) ?_
          rotate_left
          · (intro w hSw; (try dsimp only at hSw); go_simp; try (with_reducible rfl))
          try simp only [Act.put, List.setIfInBounds_toArray, List.set_cons_zero, List.set_cons_succ, List.getElem_toArray, List.getElem_cons_zero]
          refine wpAnyH_take (i := 1) (v := ?_) rfl (by kernel_rfl) (by kernel_rfl) (by kernel_rfl) (fun _ _ _ h => h) (Or.inl ⟨by rfl, ?_⟩) (by assumption) ?_
          rotate_left
          · (intro w hSw; (try dsimp only at hSw); go_simp; try (with_reducible rfl))
          try simp only [Act.put, List.setIfInBounds_toArray, List.set_cons_zero, List.set_cons_succ, List.getElem_toArray, List.getElem_cons_zero, List.getElem_cons_succ]
          refine wpAnyH_take (i := 4) (v := ?_) rfl (by kernel_rfl) (by kernel_rfl) (by kernel_rfl) (fun _ _ _ h => h) (Or.inl ⟨by rfl, ?_⟩) (by assumption) ?_
          rotate_left
          · (intro w hSw; (try dsimp only at hSw); go_simp; try (with_reducible rfl))
          try simp only [Act.put, List.setIfInBounds_toArray, List.set_cons_zero, List.set_cons_succ, List.getElem_toArray, List.getElem_cons_zero, List.getElem_cons_succ]
          refine wpAnyH_take (i := 5) (v := ?_) rfl (by kernel_rfl) (by kernel_rfl) (by kernel_rfl) (fun _ _ _ h => h) (Or.inl ⟨by rfl, ?_⟩) (by assumption) ?_
          rotate_left
          · (intro w hSw; (try dsimp only at hSw); go_simp; try (with_reducible rfl))
          try simp only [Act.put, List.setIfInBounds_toArray, List.set_cons_zero, List.set_cons_succ, List.getElem_toArray, List.getElem_cons_zero, List.getElem_cons_succ]
          refine wpAnyH_ready (rs := [2]) (by kernel_rfl) (by simp) ?_
          refine AllReadyH.cons rfl (fun K' hK => ?_) AllReadyH.nil
          go_simp
          go_at_call 16
          refine (HLAST.out _ (bD (Below.refl _ _))).mono ?_
          rintro e2 w2' ⟨rfl, rfl⟩
          refine hK.out _ _ (HCA.out W1.drew HA1.out) (fun hHeld2 => ?_)
          clear hK K' hHeld
          have hHeld := hHeld2
          clear hHeld2
          try simp only [Act.put, List.setIfInBounds_toArray, List.set_cons_zero, List.set_cons_succ, List.getElem_toArray, List.getElem_cons_zero, List.getElem_cons_succ]
          refine wpAnyH_take (i := 3) (v := ?_) rfl (by kernel_rfl) (by kernel_rfl) (by kernel_rfl) (fun _ _ _ h => h) (Or.inl ⟨by rfl, ?_⟩) (by assumption) ?_
          rotate_left
          · (intro w hSw; (try dsimp only at hSw); go_simp; try (with_reducible rfl))
          try simp only [Act.put, List.setIfInBounds_toArray, List.set_cons_zero, List.set_cons_succ, List.getElem_toArray, List.getElem_cons_zero, List.getElem_cons_succ]
          refine wpAnyH_ready (rs := [6]) (by kernel_rfl) (by simp) ?_
          refine AllReadyH.cons rfl (fun K' hK => ?_) AllReadyH.nil
          go_simp
          go_at_call 18
          refine HAPP.out.mono ?_
          rintro e6 w6 ⟨ee, rfl, hbx, hc6, h6⟩
          refine hK.out _ _ (HCA.out w6 hbx) (fun hHeld2 => ?_)
          clear hK K' hHeld
          have hHeld := hHeld2
          clear hHeld2
          try simp only [Act.put, List.setIfInBounds_toArray, List.set_cons_zero, List.set_cons_succ, List.getElem_toArray, List.getElem_cons_zero, List.getElem_cons_succ]
          refine wpAnyH_take (i := 7) (v := ?_) rfl (by kernel_rfl) (by kernel_rfl) (by kernel_rfl) (fun _ _ _ h => h) (Or.inl ⟨by rfl, ?_⟩) (by assumption) ?_
          rotate_left
          · (intro w hSw; (try dsimp only at hSw); go_simp; try (with_reducible rfl))
          try simp only [Act.put, List.setIfInBounds_toArray, List.set_cons_zero, List.set_cons_succ, List.getElem_toArray, List.getElem_cons_zero, List.getElem_cons_succ]
          refine wpAnyH_done (by kernel_rfl) ?_ _
          refine NoPanic.normal ?_
          clear hHeld
          have HC6 := Lib.hid hc6
          rcases h6 with ⟨rfl, hue, hkl6⟩ | ⟨rfl, hkl6⟩ | ⟨rfl, hue, hkl6⟩ | ⟨rfl, hue, hkl6⟩
          · obtain ⟨lz1, hlz1⟩ : ∃ lz1, lz1 = lz + 1 := ⟨_, rfl⟩
            have HLZ1 := Lib.hid hlz1
            have hlz1b : lz1 ≤ 33 := by omega
            have HUE := Lib.hid hue
            clear hlz1 hue
            have HLAST6 := Lib.hid (fun (X : World) (hX : Below w6.heap.size w6 X) => (by
              have h := (hkl6.on hX).last
              rw [List.length_append, HML.out, List.length_singleton, show after + (sn + 1) = lz1 by have := HLZ.out; have := HLZ1.out; omega] at h
              exact h : Calls Try.prog 16 #[.pointer (some ⟨P, 0, none⟩)] X fun e w' => e = .returned (.int .i64 (lz1 : Int)) ∧ X = w'))
            have HKL6 := Lib.hid hkl6
            have hbz : Below w6.heap.size w6 (w6.alloc (.cells #[.int .i64 0, .slice none 0 0] 51)).drew := bD (bA (Below.refl _ _) _)
            obtain ⟨W3, hW3⟩ : ∃ W3, (w6.alloc (.cells #[.int .i64 (lz1 : Int), .slice bp bl bc] 51)).drew = W3 := ⟨_, rfl⟩
            have hb3 : Below w6.heap.size w6 W3 := by rw [← hW3]; exact bD (bA (Below.refl _ _) _)
            have hX3 : W3.heap[w6.heap.size]? = some (.cells #[.int .i64 (lz1 : Int), .slice bp bl bc] 51 (0, 0)) := by rw [← hW3]; exact heap_new w6 _
            have HR6 := Lib.hid (HS1.out.row.chg hc6 HS1.out.log.others)
            have hcz : (w6.alloc (.cells #[.int .i64 0, .slice none 0 0] 51)).drew.cell? ⟨wr.heap.size, 2, none⟩ = some (.slice bp bl bc) := HCA.out _ ((Chg.below hbz (fun _ => False)).box hbx (fun e => e))
            have hcx : (w6.alloc (.cells #[.int .i64 (lz1 : Int), .slice bp bl bc] 51)).drew.cell? ⟨wr.heap.size, 2, none⟩ = some (.slice bp bl bc) := by rw [hW3]; exact HCA.out _ ((Chg.below hb3 (fun _ => False)).box hbx (fun e => e))
            have hxl : w6.heap.size < W3.heap.size := (Array.getElem?_eq_some_iff.1 hX3).1
            have y0 : W3.cell? ⟨w6.heap.size, 0, none⟩ = some (.int .i64 (lz1 : Int)) := by rw [cell_in hX3]; rfl
            have y1 : W3.cell? ⟨w6.heap.size, 1, none⟩ = some (.slice bp bl bc) := by rw [cell_in hX3]; rfl
            have yf := frozen_in hX3 0
            have HW3 := Lib.hid hW3
            have HX3 := Lib.hid hX3
            have HB3 := Lib.hid hb3
            have HXL := Lib.hid hxl
            have HS3 := Lib.hid (show w.heap.size ≤ W3.heap.size by have := HKL6.out.below.size; omega)
            clear hkl6 hW3 hX3 hb3 hxl
            go_wp2
            refine wp_region_noPanic ?_
            refine wp_region_held_drew (S := fun X => X.cell? ⟨wr.heap.size, 2, none⟩ = some (.slice bp bl bc)) (by kernel_rfl) (HCA.out w6.drew hbx) (fun hHeld => ?_)
            refine wpAnyH_take (i := 0) (v := ?_) rfl (by kernel_rfl) (by kernel_rfl) (by kernel_rfl) (fun _ _ _ h => h) (Or.inl ⟨by rfl, ?_⟩) (by assumption) ?_
            rotate_left
            · (intro w hSw; (try dsimp only at hSw); go_simp; try (with_reducible rfl))
            try simp only [Act.put, List.setIfInBounds_toArray, List.set_cons_zero, List.set_cons_succ, List.getElem_toArray, List.getElem_cons_zero]
            refine wpAnyH_take (i := 2) (v := ?_) rfl (by kernel_rfl) (by kernel_rfl) (by kernel_rfl) (fun _ _ _ h => h) (Or.inl ⟨by rfl, ?_⟩) (by assumption) ?_
            rotate_left
            · (intro w hSw; (try dsimp only at hSw); go_simp; try (with_reducible rfl))
            try simp only [Act.put, List.setIfInBounds_toArray, List.set_cons_zero, List.set_cons_succ, List.getElem_toArray, List.getElem_cons_zero, List.getElem_cons_succ]
            refine wpAnyH_take (i := 3) (v := ?_) rfl (by kernel_rfl) (by kernel_rfl) (by kernel_rfl) (fun _ _ _ h => h) (Or.inl ⟨by rfl, ?_⟩) (by assumption) ?_
            rotate_left
            · (intro w hSw; (try dsimp only at hSw); go_simp; try (with_reducible rfl))
            try simp only [Act.put, List.setIfInBounds_toArray, List.set_cons_zero, List.set_cons_succ, List.getElem_toArray, List.getElem_cons_zero, List.getElem_cons_succ]
            refine wpAnyH_ready (rs := [1, 5]) (by kernel_rfl) (by simp) ?_
            refine AllReadyH.cons rfl (fun K' hK => ?_) (AllReadyH.cons rfl (fun K' hK => ?_) AllReadyH.nil)
            · go_simp
              go_at_call 16
              refine (HLAST6.out _ (bD (Below.refl _ _))).mono ?_
              rintro e7 w7' ⟨rfl, rfl⟩
              refine hK.out _ _ (HCA.out w6.drew hbx) (fun hHeld2 => ?_)
              clear hK K' hHeld
              have hHeld := hHeld2
              clear hHeld2
              try simp only [Act.put, List.setIfInBounds_toArray, List.set_cons_zero, List.set_cons_succ, List.getElem_toArray, List.getElem_cons_zero, List.getElem_cons_succ]
              refine wpAnyH_take (i := 4) (v := ?_) rfl (by kernel_rfl) (by kernel_rfl) (by kernel_rfl) (fun _ _ _ h => h) (Or.inl ⟨by rfl, ?_⟩) (by assumption) ?_
              rotate_left
              · (intro w hSw; (try dsimp only at hSw); go_simp; try (with_reducible rfl))
              try simp only [Act.put, List.setIfInBounds_toArray, List.set_cons_zero, List.set_cons_succ, List.getElem_toArray, List.getElem_cons_zero, List.getElem_cons_succ]
              refine wpAnyH_ready (rs := [5]) (by kernel_rfl) (by simp) ?_
              refine AllReadyH.cons rfl (fun K' hK => ?_) AllReadyH.nil
              go_simp
              refine hK.out _ _ (hcz) (fun hHeld2 => ?_)
              clear hK K' hHeld
              have hHeld := hHeld2
              clear hHeld2
              try simp only [Act.put, List.setIfInBounds_toArray, List.set_cons_zero, List.set_cons_succ, List.getElem_toArray, List.getElem_cons_zero, List.getElem_cons_succ]
              refine wpAnyH_ready (rs := [6]) (by kernel_rfl) (by simp) ?_
              refine AllReadyH.cons rfl (fun K' hK => ?_) AllReadyH.nil
              go_simp
              refine hK.out _ _ (hcx) (fun hHeld2 => ?_)
              clear hK K' hHeld
              have hHeld := hHeld2
              clear hHeld2
              try simp only [Act.put, List.setIfInBounds_toArray, List.set_cons_zero, List.set_cons_succ, List.getElem_toArray, List.getElem_cons_zero, List.getElem_cons_succ]
              refine wpAnyH_done (by kernel_rfl) ?_ _
              refine NoPanic.normal ?_
              clear hHeld
              rw [HW3.out]
              have HXOK := Lib.hid (x_ok (st := lz1) (cp := bc) HIN.out.1 HIN.out.2.2.1 HC6.out HS1.out.log.others HB3.out)
              have hs3 : (W3.alloc (.cells #[.int .i64 (lz1 : Int), .slice bp bl bc] 51)).ownsRow w.heap.size 51 2 (.slice sp sn sc) sn (eCells SE) := by
                have h := ((HR6.out.on HB3.out).on (bA (Below.refl W3.heap.size W3) (.cells #[.int .i64 (lz1 : Int), .slice bp bl bc] 51))).srow
                rw [← HLEN.out.1] at h
                exact h
              have hlit : (W3.alloc (.cells #[.int .i64 (lz1 : Int), .slice bp bl bc] 51)).ownsRow W3.heap.size 51 2 (.slice (some ⟨W3.heap.size, 0, none⟩) 1 1) 1 [.int .i64 (lz1 : Int), .slice bp bl bc] := World.ownsRow_lit W3 #[.int .i64 (lz1 : Int), .slice bp bl bc] 1 (Nat.le_refl _) (by decide) rfl
              have HSR3 := Lib.hid hs3
              have HLIT := Lib.hid hlit
              clear hs3 hlit
              have hsn40 : sn ≤ 32 := by have := HAF.out; omega
              have hw3s : w.heap.size ≤ (W3.alloc (.cells #[.int .i64 (lz1 : Int), .slice bp bl bc] 51)).heap.size := by have := HS3.out; simp; omega
              have HW3S := Lib.hid hw3s
              clear hw3s
              go_wp2_with (at_builtin; refine append_ents rfl (.tmp 94) (.tmp 96) rfl w.heap.size _ sn (eCells SE) rfl HSR3.out W3.heap.size _ 1 _ rfl HLIT.out (by simp; exact ⟨rfl, rfl⟩) rfl (by omega) HW3S.out ?_; intro v7 w7 hrow7 hg7 hv7n; obtain ⟨p7, c7, rfl, hst7⟩ := grow_ok HS1.out HUE.out HLEN.out.1 HLEN.out.2 HKL6.out HR6.out HB3.out HXOK.out HLZ.out HLZ1.out HBL0.out hrow7 hg7; have HST7 := Lib.hid hst7; clear hrow7 hg7 hv7n hst7)
              go_roundw
              case rel => exact ⟨i + 1, P, after, sn + 1, un, p7, up, c7, uc, SE ++ [⟨lz1, bp, bc, a.body⟩], UE, by omega, by go_num, rfl, rfl, rfl, rfl, Lib.hid ⟨by rw [List.length_append, ← HLEN.out.1]; rfl, HLEN.out.2⟩, Lib.hid (by have := HAF.out; omega), HST7⟩
              case measure => simp [intOf]; omega
            · go_simp
              refine hK.out _ _ (hcz) (fun hHeld2 => ?_)
              clear hK K' hHeld
              have hHeld := hHeld2
              clear hHeld2
              try simp only [Act.put, List.setIfInBounds_toArray, List.set_cons_zero, List.set_cons_succ, List.getElem_toArray, List.getElem_cons_zero, List.getElem_cons_succ]
              refine wpAnyH_ready (rs := [1]) (by kernel_rfl) (by simp) ?_
              refine AllReadyH.cons rfl (fun K' hK => ?_) AllReadyH.nil
              go_simp
              go_at_call 16
              refine (HLAST6.out _ (hbz)).mono ?_
              rintro e7 w7' ⟨rfl, rfl⟩
              refine hK.out _ _ (hcz) (fun hHeld2 => ?_)
              clear hK K' hHeld
              have hHeld := hHeld2
              clear hHeld2
              try simp only [Act.put, List.setIfInBounds_toArray, List.set_cons_zero, List.set_cons_succ, List.getElem_toArray, List.getElem_cons_zero, List.getElem_cons_succ]
              refine wpAnyH_take (i := 4) (v := ?_) rfl (by kernel_rfl) (by kernel_rfl) (by kernel_rfl) (fun _ _ _ h => h) (Or.inl ⟨by rfl, ?_⟩) (by assumption) ?_
              rotate_left
              · (intro w hSw; (try dsimp only at hSw); go_simp; try (with_reducible rfl))
              try simp only [Act.put, List.setIfInBounds_toArray, List.set_cons_zero, List.set_cons_succ, List.getElem_toArray, List.getElem_cons_zero, List.getElem_cons_succ]
              refine wpAnyH_ready (rs := [6]) (by kernel_rfl) (by simp) ?_
              refine AllReadyH.cons rfl (fun K' hK => ?_) AllReadyH.nil
              go_simp
              refine hK.out _ _ (hcx) (fun hHeld2 => ?_)
              clear hK K' hHeld
              have hHeld := hHeld2
              clear hHeld2
              try simp only [Act.put, List.setIfInBounds_toArray, List.set_cons_zero, List.set_cons_succ, List.getElem_toArray, List.getElem_cons_zero, List.getElem_cons_succ]
              refine wpAnyH_done (by kernel_rfl) ?_ _
              refine NoPanic.normal ?_
              clear hHeld
              rw [HW3.out]
              have HXOK := Lib.hid (x_ok (st := lz1) (cp := bc) HIN.out.1 HIN.out.2.2.1 HC6.out HS1.out.log.others HB3.out)
              have hs3 : (W3.alloc (.cells #[.int .i64 (lz1 : Int), .slice bp bl bc] 51)).ownsRow w.heap.size 51 2 (.slice sp sn sc) sn (eCells SE) := by
                have h := ((HR6.out.on HB3.out).on (bA (Below.refl W3.heap.size W3) (.cells #[.int .i64 (lz1 : Int), .slice bp bl bc] 51))).srow
                rw [← HLEN.out.1] at h
                exact h
              have hlit : (W3.alloc (.cells #[.int .i64 (lz1 : Int), .slice bp bl bc] 51)).ownsRow W3.heap.size 51 2 (.slice (some ⟨W3.heap.size, 0, none⟩) 1 1) 1 [.int .i64 (lz1 : Int), .slice bp bl bc] := World.ownsRow_lit W3 #[.int .i64 (lz1 : Int), .slice bp bl bc] 1 (Nat.le_refl _) (by decide) rfl
              have HSR3 := Lib.hid hs3
              have HLIT := Lib.hid hlit
              clear hs3 hlit
              have hsn40 : sn ≤ 32 := by have := HAF.out; omega
              have hw3s : w.heap.size ≤ (W3.alloc (.cells #[.int .i64 (lz1 : Int), .slice bp bl bc] 51)).heap.size := by have := HS3.out; simp; omega
              have HW3S := Lib.hid hw3s
              clear hw3s
              go_wp2_with (at_builtin; refine append_ents rfl (.tmp 94) (.tmp 96) rfl w.heap.size _ sn (eCells SE) rfl HSR3.out W3.heap.size _ 1 _ rfl HLIT.out (by simp; exact ⟨rfl, rfl⟩) rfl (by omega) HW3S.out ?_; intro v7 w7 hrow7 hg7 hv7n; obtain ⟨p7, c7, rfl, hst7⟩ := grow_ok HS1.out HUE.out HLEN.out.1 HLEN.out.2 HKL6.out HR6.out HB3.out HXOK.out HLZ.out HLZ1.out HBL0.out hrow7 hg7; have HST7 := Lib.hid hst7; clear hrow7 hg7 hv7n hst7)
              go_roundw
              case rel => exact ⟨i + 1, P, after, sn + 1, un, p7, up, c7, uc, SE ++ [⟨lz1, bp, bc, a.body⟩], UE, by omega, by go_num, rfl, rfl, rfl, rfl, Lib.hid ⟨by rw [List.length_append, ← HLEN.out.1]; rfl, HLEN.out.2⟩, Lib.hid (by have := HAF.out; omega), HST7⟩
              case measure => simp [intOf]; omega
          · have HLAST6 := Lib.hid (fun (X : World) (hX : Below w6.heap.size w6 X) => (by
              have h := (hkl6.on hX).last
              rw [HML.out, ← HLZ.out] at h
              exact h : Calls Try.prog 16 #[.pointer (some ⟨P, 0, none⟩)] X fun e w' => e = .returned (.int .i64 (lz : Int)) ∧ X = w'))
            have HKL6 := Lib.hid hkl6
            have hbz : Below w6.heap.size w6 (w6.alloc (.cells #[.int .i64 0, .slice none 0 0] 51)).drew := bD (bA (Below.refl _ _) _)
            obtain ⟨W3, hW3⟩ : ∃ W3, (w6.alloc (.cells #[.int .i64 (lz : Int), .slice bp bl bc] 51)).drew = W3 := ⟨_, rfl⟩
            have hb3 : Below w6.heap.size w6 W3 := by rw [← hW3]; exact bD (bA (Below.refl _ _) _)
            have hX3 : W3.heap[w6.heap.size]? = some (.cells #[.int .i64 (lz : Int), .slice bp bl bc] 51 (0, 0)) := by rw [← hW3]; exact heap_new w6 _
            have HR6 := Lib.hid (HS1.out.row.chg hc6 HS1.out.log.others)
            have hcz : (w6.alloc (.cells #[.int .i64 0, .slice none 0 0] 51)).drew.cell? ⟨wr.heap.size, 2, none⟩ = some (.slice bp bl bc) := HCA.out _ ((Chg.below hbz (fun _ => False)).box hbx (fun e => e))
            have hcx : (w6.alloc (.cells #[.int .i64 (lz : Int), .slice bp bl bc] 51)).drew.cell? ⟨wr.heap.size, 2, none⟩ = some (.slice bp bl bc) := by rw [hW3]; exact HCA.out _ ((Chg.below hb3 (fun _ => False)).box hbx (fun e => e))
            have hxl : w6.heap.size < W3.heap.size := (Array.getElem?_eq_some_iff.1 hX3).1
            have y0 : W3.cell? ⟨w6.heap.size, 0, none⟩ = some (.int .i64 (lz : Int)) := by rw [cell_in hX3]; rfl
            have y1 : W3.cell? ⟨w6.heap.size, 1, none⟩ = some (.slice bp bl bc) := by rw [cell_in hX3]; rfl
            have yf := frozen_in hX3 0
            have HW3 := Lib.hid hW3
            have HX3 := Lib.hid hX3
            have HB3 := Lib.hid hb3
            have HXL := Lib.hid hxl
            have HS3 := Lib.hid (show w.heap.size ≤ W3.heap.size by have := HKL6.out.below.size; omega)
            clear hkl6 hW3 hX3 hb3 hxl
            go_wp2
            refine wp_region_noPanic ?_
            refine wp_region_held_drew (S := fun X => X.cell? ⟨wr.heap.size, 2, none⟩ = some (.slice bp bl bc)) (by kernel_rfl) (HCA.out w6.drew hbx) (fun hHeld => ?_)
            refine wpAnyH_take (i := 0) (v := ?_) rfl (by kernel_rfl) (by kernel_rfl) (by kernel_rfl) (fun _ _ _ h => h) (Or.inl ⟨by rfl, ?_⟩) (by assumption) ?_
            rotate_left
            · (intro w hSw; (try dsimp only at hSw); go_simp; try (with_reducible rfl))
            try simp only [Act.put, List.setIfInBounds_toArray, List.set_cons_zero, List.set_cons_succ, List.getElem_toArray, List.getElem_cons_zero]
            refine wpAnyH_take (i := 2) (v := ?_) rfl (by kernel_rfl) (by kernel_rfl) (by kernel_rfl) (fun _ _ _ h => h) (Or.inl ⟨by rfl, ?_⟩) (by assumption) ?_
            rotate_left
            · (intro w hSw; (try dsimp only at hSw); go_simp; try (with_reducible rfl))
            try simp only [Act.put, List.setIfInBounds_toArray, List.set_cons_zero, List.set_cons_succ, List.getElem_toArray, List.getElem_cons_zero, List.getElem_cons_succ]
            refine wpAnyH_take (i := 3) (v := ?_) rfl (by kernel_rfl) (by kernel_rfl) (by kernel_rfl) (fun _ _ _ h => h) (Or.inl ⟨by rfl, ?_⟩) (by assumption) ?_
            rotate_left
            · (intro w hSw; (try dsimp only at hSw); go_simp; try (with_reducible rfl))
            try simp only [Act.put, List.setIfInBounds_toArray, List.set_cons_zero, List.set_cons_succ, List.getElem_toArray, List.getElem_cons_zero, List.getElem_cons_succ]
            refine wpAnyH_ready (rs := [1, 5]) (by kernel_rfl) (by simp) ?_
            refine AllReadyH.cons rfl (fun K' hK => ?_) (AllReadyH.cons rfl (fun K' hK => ?_) AllReadyH.nil)
            · go_simp
              go_at_call 16
              refine (HLAST6.out _ (bD (Below.refl _ _))).mono ?_
              rintro e7 w7' ⟨rfl, rfl⟩
              refine hK.out _ _ (HCA.out w6.drew hbx) (fun hHeld2 => ?_)
              clear hK K' hHeld
              have hHeld := hHeld2
              clear hHeld2
              try simp only [Act.put, List.setIfInBounds_toArray, List.set_cons_zero, List.set_cons_succ, List.getElem_toArray, List.getElem_cons_zero, List.getElem_cons_succ]
              refine wpAnyH_take (i := 4) (v := ?_) rfl (by kernel_rfl) (by kernel_rfl) (by kernel_rfl) (fun _ _ _ h => h) (Or.inl ⟨by rfl, ?_⟩) (by assumption) ?_
              rotate_left
              · (intro w hSw; (try dsimp only at hSw); go_simp; try (with_reducible rfl))
              try simp only [Act.put, List.setIfInBounds_toArray, List.set_cons_zero, List.set_cons_succ, List.getElem_toArray, List.getElem_cons_zero, List.getElem_cons_succ]
              refine wpAnyH_ready (rs := [5]) (by kernel_rfl) (by simp) ?_
              refine AllReadyH.cons rfl (fun K' hK => ?_) AllReadyH.nil
              go_simp
              refine hK.out _ _ (hcz) (fun hHeld2 => ?_)
              clear hK K' hHeld
              have hHeld := hHeld2
              clear hHeld2
              try simp only [Act.put, List.setIfInBounds_toArray, List.set_cons_zero, List.set_cons_succ, List.getElem_toArray, List.getElem_cons_zero, List.getElem_cons_succ]
              refine wpAnyH_ready (rs := [6]) (by kernel_rfl) (by simp) ?_
              refine AllReadyH.cons rfl (fun K' hK => ?_) AllReadyH.nil
              go_simp
              refine hK.out _ _ (hcx) (fun hHeld2 => ?_)
              clear hK K' hHeld
              have hHeld := hHeld2
              clear hHeld2
              try simp only [Act.put, List.setIfInBounds_toArray, List.set_cons_zero, List.set_cons_succ, List.getElem_toArray, List.getElem_cons_zero, List.getElem_cons_succ]
              refine wpAnyH_done (by kernel_rfl) ?_ _
              refine NoPanic.normal ?_
              clear hHeld
              rw [HW3.out]
              go_wp2
              go_roundw
              case rel => exact ⟨i + 1, P, after, sn, un, sp, up, sc, uc, SE, UE, by omega, by go_num, rfl, rfl, rfl, rfl, HLEN, Lib.hid (by have := HAF.out; omega), Lib.hid (KSt.on ⟨HKL6.out, HR6.out, HS1.out.st, HS1.out.few, HS1.out.ust, HS1.out.nil⟩ HB3.out)⟩
              case measure => simp [intOf]; omega
            · go_simp
              refine hK.out _ _ (hcz) (fun hHeld2 => ?_)
              clear hK K' hHeld
              have hHeld := hHeld2
              clear hHeld2
              try simp only [Act.put, List.setIfInBounds_toArray, List.set_cons_zero, List.set_cons_succ, List.getElem_toArray, List.getElem_cons_zero, List.getElem_cons_succ]
              refine wpAnyH_ready (rs := [1]) (by kernel_rfl) (by simp) ?_
              refine AllReadyH.cons rfl (fun K' hK => ?_) AllReadyH.nil
              go_simp
              go_at_call 16
              refine (HLAST6.out _ (hbz)).mono ?_
              rintro e7 w7' ⟨rfl, rfl⟩
              refine hK.out _ _ (hcz) (fun hHeld2 => ?_)
              clear hK K' hHeld
              have hHeld := hHeld2
              clear hHeld2
              try simp only [Act.put, List.setIfInBounds_toArray, List.set_cons_zero, List.set_cons_succ, List.getElem_toArray, List.getElem_cons_zero, List.getElem_cons_succ]
              refine wpAnyH_take (i := 4) (v := ?_) rfl (by kernel_rfl) (by kernel_rfl) (by kernel_rfl) (fun _ _ _ h => h) (Or.inl ⟨by rfl, ?_⟩) (by assumption) ?_
              rotate_left
              · (intro w hSw; (try dsimp only at hSw); go_simp; try (with_reducible rfl))
              try simp only [Act.put, List.setIfInBounds_toArray, List.set_cons_zero, List.set_cons_succ, List.getElem_toArray, List.getElem_cons_zero, List.getElem_cons_succ]
              refine wpAnyH_ready (rs := [6]) (by kernel_rfl) (by simp) ?_
              refine AllReadyH.cons rfl (fun K' hK => ?_) AllReadyH.nil
              go_simp
              refine hK.out _ _ (hcx) (fun hHeld2 => ?_)
              clear hK K' hHeld
              have hHeld := hHeld2
              clear hHeld2
              try simp only [Act.put, List.setIfInBounds_toArray, List.set_cons_zero, List.set_cons_succ, List.getElem_toArray, List.getElem_cons_zero, List.getElem_cons_succ]
              refine wpAnyH_done (by kernel_rfl) ?_ _
              refine NoPanic.normal ?_
              clear hHeld
              rw [HW3.out]
              go_wp2
              go_roundw
              case rel => exact ⟨i + 1, P, after, sn, un, sp, up, sc, uc, SE, UE, by omega, by go_num, rfl, rfl, rfl, rfl, HLEN, Lib.hid (by have := HAF.out; omega), Lib.hid (KSt.on ⟨HKL6.out, HR6.out, HS1.out.st, HS1.out.few, HS1.out.ust, HS1.out.nil⟩ HB3.out)⟩
              case measure => simp [intOf]; omega
          · have hun1 : un = 1 := by
              have h1 := HLEN.out.2
              have h2 := HS1.out.few
              have h3 : UE.length ≠ 0 := fun e => hue (List.eq_nil_of_length_eq_zero e)
              omega
            subst hun1
            clear hue
            have HLAST6 := Lib.hid (fun (X : World) (hX : Below w6.heap.size w6 X) => (by
              have h := (hkl6.on hX).last
              rw [HML.out, ← HLZ.out] at h
              exact h : Calls Try.prog 16 #[.pointer (some ⟨P, 0, none⟩)] X fun e w' => e = .returned (.int .i64 (lz : Int)) ∧ X = w'))
            have HKL6 := Lib.hid hkl6
            have hbz : Below w6.heap.size w6 (w6.alloc (.cells #[.int .i64 0, .slice none 0 0] 51)).drew := bD (bA (Below.refl _ _) _)
            obtain ⟨W3, hW3⟩ : ∃ W3, (w6.alloc (.cells #[.int .i64 (lz : Int), .slice bp bl bc] 51)).drew = W3 := ⟨_, rfl⟩
            have hb3 : Below w6.heap.size w6 W3 := by rw [← hW3]; exact bD (bA (Below.refl _ _) _)
            have hX3 : W3.heap[w6.heap.size]? = some (.cells #[.int .i64 (lz : Int), .slice bp bl bc] 51 (0, 0)) := by rw [← hW3]; exact heap_new w6 _
            have HR6 := Lib.hid (HS1.out.row.chg hc6 HS1.out.log.others)
            have hcz : (w6.alloc (.cells #[.int .i64 0, .slice none 0 0] 51)).drew.cell? ⟨wr.heap.size, 2, none⟩ = some (.slice bp bl bc) := HCA.out _ ((Chg.below hbz (fun _ => False)).box hbx (fun e => e))
            have hcx : (w6.alloc (.cells #[.int .i64 (lz : Int), .slice bp bl bc] 51)).drew.cell? ⟨wr.heap.size, 2, none⟩ = some (.slice bp bl bc) := by rw [hW3]; exact HCA.out _ ((Chg.below hb3 (fun _ => False)).box hbx (fun e => e))
            have hxl : w6.heap.size < W3.heap.size := (Array.getElem?_eq_some_iff.1 hX3).1
            have y0 : W3.cell? ⟨w6.heap.size, 0, none⟩ = some (.int .i64 (lz : Int)) := by rw [cell_in hX3]; rfl
            have y1 : W3.cell? ⟨w6.heap.size, 1, none⟩ = some (.slice bp bl bc) := by rw [cell_in hX3]; rfl
            have yf := frozen_in hX3 0
            have HW3 := Lib.hid hW3
            have HX3 := Lib.hid hX3
            have HB3 := Lib.hid hb3
            have HXL := Lib.hid hxl
            have HS3 := Lib.hid (show w.heap.size ≤ W3.heap.size by have := HKL6.out.below.size; omega)
            clear hkl6 hW3 hX3 hb3 hxl
            go_wp2
            refine wp_region_noPanic ?_
            refine wp_region_held_drew (S := fun X => X.cell? ⟨wr.heap.size, 2, none⟩ = some (.slice bp bl bc)) (by kernel_rfl) (HCA.out w6.drew hbx) (fun hHeld => ?_)
            refine wpAnyH_take (i := 0) (v := ?_) rfl (by kernel_rfl) (by kernel_rfl) (by kernel_rfl) (fun _ _ _ h => h) (Or.inl ⟨by rfl, ?_⟩) (by assumption) ?_
            rotate_left
            · (intro w hSw; (try dsimp only at hSw); go_simp; try (with_reducible rfl))
            try simp only [Act.put, List.setIfInBounds_toArray, List.set_cons_zero, List.set_cons_succ, List.getElem_toArray, List.getElem_cons_zero]
            refine wpAnyH_take (i := 2) (v := ?_) rfl (by kernel_rfl) (by kernel_rfl) (by kernel_rfl) (fun _ _ _ h => h) (Or.inl ⟨by rfl, ?_⟩) (by assumption) ?_
            rotate_left
            · (intro w hSw; (try dsimp only at hSw); go_simp; try (with_reducible rfl))
            try simp only [Act.put, List.setIfInBounds_toArray, List.set_cons_zero, List.set_cons_succ, List.getElem_toArray, List.getElem_cons_zero, List.getElem_cons_succ]
            refine wpAnyH_take (i := 3) (v := ?_) rfl (by kernel_rfl) (by kernel_rfl) (by kernel_rfl) (fun _ _ _ h => h) (Or.inl ⟨by rfl, ?_⟩) (by assumption) ?_
            rotate_left
            · (intro w hSw; (try dsimp only at hSw); go_simp; try (with_reducible rfl))
            try simp only [Act.put, List.setIfInBounds_toArray, List.set_cons_zero, List.set_cons_succ, List.getElem_toArray, List.getElem_cons_zero, List.getElem_cons_succ]
            refine wpAnyH_ready (rs := [1, 5]) (by kernel_rfl) (by simp) ?_
            refine AllReadyH.cons rfl (fun K' hK => ?_) (AllReadyH.cons rfl (fun K' hK => ?_) AllReadyH.nil)
            · go_simp
              go_at_call 16
              refine (HLAST6.out _ (bD (Below.refl _ _))).mono ?_
              rintro e7 w7' ⟨rfl, rfl⟩
              refine hK.out _ _ (HCA.out w6.drew hbx) (fun hHeld2 => ?_)
              clear hK K' hHeld
              have hHeld := hHeld2
              clear hHeld2
              try simp only [Act.put, List.setIfInBounds_toArray, List.set_cons_zero, List.set_cons_succ, List.getElem_toArray, List.getElem_cons_zero, List.getElem_cons_succ]
              refine wpAnyH_take (i := 4) (v := ?_) rfl (by kernel_rfl) (by kernel_rfl) (by kernel_rfl) (fun _ _ _ h => h) (Or.inl ⟨by rfl, ?_⟩) (by assumption) ?_
              rotate_left
              · (intro w hSw; (try dsimp only at hSw); go_simp; try (with_reducible rfl))
              try simp only [Act.put, List.setIfInBounds_toArray, List.set_cons_zero, List.set_cons_succ, List.getElem_toArray, List.getElem_cons_zero, List.getElem_cons_succ]
              refine wpAnyH_ready (rs := [5]) (by kernel_rfl) (by simp) ?_
              refine AllReadyH.cons rfl (fun K' hK => ?_) AllReadyH.nil
              go_simp
              refine hK.out _ _ (hcz) (fun hHeld2 => ?_)
              clear hK K' hHeld
              have hHeld := hHeld2
              clear hHeld2
              try simp only [Act.put, List.setIfInBounds_toArray, List.set_cons_zero, List.set_cons_succ, List.getElem_toArray, List.getElem_cons_zero, List.getElem_cons_succ]
              refine wpAnyH_ready (rs := [6]) (by kernel_rfl) (by simp) ?_
              refine AllReadyH.cons rfl (fun K' hK => ?_) AllReadyH.nil
              go_simp
              refine hK.out _ _ (hcx) (fun hHeld2 => ?_)
              clear hK K' hHeld
              have hHeld := hHeld2
              clear hHeld2
              try simp only [Act.put, List.setIfInBounds_toArray, List.set_cons_zero, List.set_cons_succ, List.getElem_toArray, List.getElem_cons_zero, List.getElem_cons_succ]
              refine wpAnyH_done (by kernel_rfl) ?_ _
              refine NoPanic.normal ?_
              clear hHeld
              rw [HW3.out]
              go_wp2
              go_roundw
              case rel => exact ⟨i + 1, P, after, sn, 1, sp, up, sc, uc, SE, UE, by omega, by go_num, rfl, rfl, rfl, rfl, HLEN, Lib.hid (by have := HAF.out; omega), Lib.hid (KSt.on ⟨HKL6.out, HR6.out, HS1.out.st, HS1.out.few, HS1.out.ust, HS1.out.nil⟩ HB3.out)⟩
              case measure => simp [intOf]; omega
            · go_simp
              refine hK.out _ _ (hcz) (fun hHeld2 => ?_)
              clear hK K' hHeld
              have hHeld := hHeld2
              clear hHeld2
              try simp only [Act.put, List.setIfInBounds_toArray, List.set_cons_zero, List.set_cons_succ, List.getElem_toArray, List.getElem_cons_zero, List.getElem_cons_succ]
              refine wpAnyH_ready (rs := [1]) (by kernel_rfl) (by simp) ?_
              refine AllReadyH.cons rfl (fun K' hK => ?_) AllReadyH.nil
              go_simp
              go_at_call 16
              refine (HLAST6.out _ (hbz)).mono ?_
              rintro e7 w7' ⟨rfl, rfl⟩
              refine hK.out _ _ (hcz) (fun hHeld2 => ?_)
              clear hK K' hHeld
              have hHeld := hHeld2
              clear hHeld2
              try simp only [Act.put, List.setIfInBounds_toArray, List.set_cons_zero, List.set_cons_succ, List.getElem_toArray, List.getElem_cons_zero, List.getElem_cons_succ]
              refine wpAnyH_take (i := 4) (v := ?_) rfl (by kernel_rfl) (by kernel_rfl) (by kernel_rfl) (fun _ _ _ h => h) (Or.inl ⟨by rfl, ?_⟩) (by assumption) ?_
              rotate_left
              · (intro w hSw; (try dsimp only at hSw); go_simp; try (with_reducible rfl))
              try simp only [Act.put, List.setIfInBounds_toArray, List.set_cons_zero, List.set_cons_succ, List.getElem_toArray, List.getElem_cons_zero, List.getElem_cons_succ]
              refine wpAnyH_ready (rs := [6]) (by kernel_rfl) (by simp) ?_
              refine AllReadyH.cons rfl (fun K' hK => ?_) AllReadyH.nil
              go_simp
              refine hK.out _ _ (hcx) (fun hHeld2 => ?_)
              clear hK K' hHeld
              have hHeld := hHeld2
              clear hHeld2
              try simp only [Act.put, List.setIfInBounds_toArray, List.set_cons_zero, List.set_cons_succ, List.getElem_toArray, List.getElem_cons_zero, List.getElem_cons_succ]
              refine wpAnyH_done (by kernel_rfl) ?_ _
              refine NoPanic.normal ?_
              clear hHeld
              rw [HW3.out]
              go_wp2
              go_roundw
              case rel => exact ⟨i + 1, P, after, sn, 1, sp, up, sc, uc, SE, UE, by omega, by go_num, rfl, rfl, rfl, rfl, HLEN, Lib.hid (by have := HAF.out; omega), Lib.hid (KSt.on ⟨HKL6.out, HR6.out, HS1.out.st, HS1.out.few, HS1.out.ust, HS1.out.nil⟩ HB3.out)⟩
              case measure => simp [intOf]; omega
          · have hunz : un = 0 := by rw [HLEN.out.2, hue]; rfl
            clear hue
            subst hunz
            have HLAST6 := Lib.hid (fun (X : World) (hX : Below w6.heap.size w6 X) => (by
              have h := (hkl6.on hX).last
              rw [HML.out, ← HLZ.out] at h
              exact h : Calls Try.prog 16 #[.pointer (some ⟨P, 0, none⟩)] X fun e w' => e = .returned (.int .i64 (lz : Int)) ∧ X = w'))
            have HKL6 := Lib.hid hkl6
            have hbz : Below w6.heap.size w6 (w6.alloc (.cells #[.int .i64 0, .slice none 0 0] 51)).drew := bD (bA (Below.refl _ _) _)
            obtain ⟨W3, hW3⟩ : ∃ W3, (w6.alloc (.cells #[.int .i64 (lz : Int), .slice bp bl bc] 51)).drew = W3 := ⟨_, rfl⟩
            have hb3 : Below w6.heap.size w6 W3 := by rw [← hW3]; exact bD (bA (Below.refl _ _) _)
            have hX3 : W3.heap[w6.heap.size]? = some (.cells #[.int .i64 (lz : Int), .slice bp bl bc] 51 (0, 0)) := by rw [← hW3]; exact heap_new w6 _
            have HR6 := Lib.hid (HS1.out.row.chg hc6 HS1.out.log.others)
            have hcz : (w6.alloc (.cells #[.int .i64 0, .slice none 0 0] 51)).drew.cell? ⟨wr.heap.size, 2, none⟩ = some (.slice bp bl bc) := HCA.out _ ((Chg.below hbz (fun _ => False)).box hbx (fun e => e))
            have hcx : (w6.alloc (.cells #[.int .i64 (lz : Int), .slice bp bl bc] 51)).drew.cell? ⟨wr.heap.size, 2, none⟩ = some (.slice bp bl bc) := by rw [hW3]; exact HCA.out _ ((Chg.below hb3 (fun _ => False)).box hbx (fun e => e))
            have hxl : w6.heap.size < W3.heap.size := (Array.getElem?_eq_some_iff.1 hX3).1
            have y0 : W3.cell? ⟨w6.heap.size, 0, none⟩ = some (.int .i64 (lz : Int)) := by rw [cell_in hX3]; rfl
            have y1 : W3.cell? ⟨w6.heap.size, 1, none⟩ = some (.slice bp bl bc) := by rw [cell_in hX3]; rfl
            have yf := frozen_in hX3 0
            have HW3 := Lib.hid hW3
            have HX3 := Lib.hid hX3
            have HB3 := Lib.hid hb3
            have HXL := Lib.hid hxl
            have HS3 := Lib.hid (show w.heap.size ≤ W3.heap.size by have := HKL6.out.below.size; omega)
            clear hkl6 hW3 hX3 hb3 hxl
            go_wp2
            refine wp_region_noPanic ?_
            refine wp_region_held_drew (S := fun X => X.cell? ⟨wr.heap.size, 2, none⟩ = some (.slice bp bl bc)) (by kernel_rfl) (HCA.out w6.drew hbx) (fun hHeld => ?_)
            refine wpAnyH_take (i := 0) (v := ?_) rfl (by kernel_rfl) (by kernel_rfl) (by kernel_rfl) (fun _ _ _ h => h) (Or.inl ⟨by rfl, ?_⟩) (by assumption) ?_
            rotate_left
            · (intro w hSw; (try dsimp only at hSw); go_simp; try (with_reducible rfl))
            try simp only [Act.put, List.setIfInBounds_toArray, List.set_cons_zero, List.set_cons_succ, List.getElem_toArray, List.getElem_cons_zero]
            refine wpAnyH_take (i := 2) (v := ?_) rfl (by kernel_rfl) (by kernel_rfl) (by kernel_rfl) (fun _ _ _ h => h) (Or.inl ⟨by rfl, ?_⟩) (by assumption) ?_
            rotate_left
            · (intro w hSw; (try dsimp only at hSw); go_simp; try (with_reducible rfl))
            try simp only [Act.put, List.setIfInBounds_toArray, List.set_cons_zero, List.set_cons_succ, List.getElem_toArray, List.getElem_cons_zero, List.getElem_cons_succ]
            refine wpAnyH_take (i := 3) (v := ?_) rfl (by kernel_rfl) (by kernel_rfl) (by kernel_rfl) (fun _ _ _ h => h) (Or.inl ⟨by rfl, ?_⟩) (by assumption) ?_
            rotate_left
            · (intro w hSw; (try dsimp only at hSw); go_simp; try (with_reducible rfl))
            try simp only [Act.put, List.setIfInBounds_toArray, List.set_cons_zero, List.set_cons_succ, List.getElem_toArray, List.getElem_cons_zero, List.getElem_cons_succ]
            refine wpAnyH_ready (rs := [1, 5]) (by kernel_rfl) (by simp) ?_
            refine AllReadyH.cons rfl (fun K' hK => ?_) (AllReadyH.cons rfl (fun K' hK => ?_) AllReadyH.nil)
            · go_simp
              go_at_call 16
              refine (HLAST6.out _ (bD (Below.refl _ _))).mono ?_
              rintro e7 w7' ⟨rfl, rfl⟩
              refine hK.out _ _ (HCA.out w6.drew hbx) (fun hHeld2 => ?_)
              clear hK K' hHeld
              have hHeld := hHeld2
              clear hHeld2
              try simp only [Act.put, List.setIfInBounds_toArray, List.set_cons_zero, List.set_cons_succ, List.getElem_toArray, List.getElem_cons_zero, List.getElem_cons_succ]
              refine wpAnyH_take (i := 4) (v := ?_) rfl (by kernel_rfl) (by kernel_rfl) (by kernel_rfl) (fun _ _ _ h => h) (Or.inl ⟨by rfl, ?_⟩) (by assumption) ?_
              rotate_left
              · (intro w hSw; (try dsimp only at hSw); go_simp; try (with_reducible rfl))
              try simp only [Act.put, List.setIfInBounds_toArray, List.set_cons_zero, List.set_cons_succ, List.getElem_toArray, List.getElem_cons_zero, List.getElem_cons_succ]
              refine wpAnyH_ready (rs := [5]) (by kernel_rfl) (by simp) ?_
              refine AllReadyH.cons rfl (fun K' hK => ?_) AllReadyH.nil
              go_simp
              refine hK.out _ _ (hcz) (fun hHeld2 => ?_)
              clear hK K' hHeld
              have hHeld := hHeld2
              clear hHeld2
              try simp only [Act.put, List.setIfInBounds_toArray, List.set_cons_zero, List.set_cons_succ, List.getElem_toArray, List.getElem_cons_zero, List.getElem_cons_succ]
              refine wpAnyH_ready (rs := [6]) (by kernel_rfl) (by simp) ?_
              refine AllReadyH.cons rfl (fun K' hK => ?_) AllReadyH.nil
              go_simp
              refine hK.out _ _ (hcx) (fun hHeld2 => ?_)
              clear hK K' hHeld
              have hHeld := hHeld2
              clear hHeld2
              try simp only [Act.put, List.setIfInBounds_toArray, List.set_cons_zero, List.set_cons_succ, List.getElem_toArray, List.getElem_cons_zero, List.getElem_cons_succ]
              refine wpAnyH_done (by kernel_rfl) ?_ _
              refine NoPanic.normal ?_
              clear hHeld
              rw [HW3.out]
              have HXOK := Lib.hid (x_ok (st := lz) (cp := bc) HIN.out.1 HIN.out.2.2.1 HC6.out HS1.out.log.others HB3.out)
              have hx := HXOK.out
              obtain ⟨lz1, hlz1⟩ : ∃ lz1, lz1 = lz + 1 := ⟨_, rfl⟩
              have HLZ1 := Lib.hid hlz1
              obtain ⟨W5, hW5⟩ : ∃ W5, W3.setCell ⟨w6.heap.size, 0, none⟩ (.int .i64 ((lz : Int) + 1)) = W5 := ⟨_, rfl⟩
              have hX5 : W5.heap[w6.heap.size]? = some (.cells #[.int .i64 (lz1 : Int), .slice bp bl bc] 51 (0, 0)) := by
                rw [← hW5, setCell_eq_setRow W3 _ _ _ _ _ _ HX3.out, setRow_heap W3 _ _ _ _ _ HX3.out, hlz1]
                rfl
              have hc5 : Chg (fun b => b = w6.heap.size) W3 W5 := by rw [← hW5]; exact Chg.setCell W3 ⟨w6.heap.size, 0, none⟩ _
              have hb5 : Below w6.heap.size w6 W5 := hc5.on HB3.out HB3.out.size (fun b e => by rw [show b = w6.heap.size from e]; exact Nat.le_refl _)
              have z0 : W5.cell? ⟨w6.heap.size, 0, none⟩ = some (.int .i64 (lz1 : Int)) := by rw [cell_in hX5]; rfl
              have z1 : W5.cell? ⟨w6.heap.size, 1, none⟩ = some (.slice bp bl bc) := by rw [cell_in hX5]; rfl
              have hk5 := HKL6.out.on hb5
              have hun := fail_ok HS1.out HKL6.out HR6.out hb5 HIN.out.1 HIN.out.2.2.1 HC6.out HLZ.out HLZ1.out HLEN.out.1 HBL0.out (bc := bc)
              have HUN := Lib.hid hun
              have HW5 := Lib.hid hW5
              clear hx hlz1 hX5 hc5 hb5 hk5 hun
              go_wp2
              go_roundw
              case rel => exact ⟨i + 1, P, after, sn, 1, sp, some ⟨W5.heap.size, 0, none⟩, sc, 1, SE, [⟨lz1, bp, bc, a.body⟩], by omega, by go_num, rfl, rfl, rfl, rfl, Lib.hid ⟨HLEN.out.1, rfl⟩, Lib.hid (by have := HAF.out; omega), HUN⟩
              case measure => simp [intOf]; omega
            · go_simp
              refine hK.out _ _ (hcz) (fun hHeld2 => ?_)
              clear hK K' hHeld
              have hHeld := hHeld2
              clear hHeld2
              try simp only [Act.put, List.setIfInBounds_toArray, List.set_cons_zero, List.set_cons_succ, List.getElem_toArray, List.getElem_cons_zero, List.getElem_cons_succ]
              refine wpAnyH_ready (rs := [1]) (by kernel_rfl) (by simp) ?_
              refine AllReadyH.cons rfl (fun K' hK => ?_) AllReadyH.nil
              go_simp
              go_at_call 16
              refine (HLAST6.out _ (hbz)).mono ?_
              rintro e7 w7' ⟨rfl, rfl⟩
              refine hK.out _ _ (hcz) (fun hHeld2 => ?_)
              clear hK K' hHeld
              have hHeld := hHeld2
              clear hHeld2
              try simp only [Act.put, List.setIfInBounds_toArray, List.set_cons_zero, List.set_cons_succ, List.getElem_toArray, List.getElem_cons_zero, List.getElem_cons_succ]
              refine wpAnyH_take (i := 4) (v := ?_) rfl (by kernel_rfl) (by kernel_rfl) (by kernel_rfl) (fun _ _ _ h => h) (Or.inl ⟨by rfl, ?_⟩) (by assumption) ?_
              rotate_left
              · (intro w hSw; (try dsimp only at hSw); go_simp; try (with_reducible rfl))
              try simp only [Act.put, List.setIfInBounds_toArray, List.set_cons_zero, List.set_cons_succ, List.getElem_toArray, List.getElem_cons_zero, List.getElem_cons_succ]
              refine wpAnyH_ready (rs := [6]) (by kernel_rfl) (by simp) ?_
              refine AllReadyH.cons rfl (fun K' hK => ?_) AllReadyH.nil
              go_simp
              refine hK.out _ _ (hcx) (fun hHeld2 => ?_)
              clear hK K' hHeld
              have hHeld := hHeld2
              clear hHeld2
              try simp only [Act.put, List.setIfInBounds_toArray, List.set_cons_zero, List.set_cons_succ, List.getElem_toArray, List.getElem_cons_zero, List.getElem_cons_succ]
              refine wpAnyH_done (by kernel_rfl) ?_ _
              refine NoPanic.normal ?_
              clear hHeld
              rw [HW3.out]
              have HXOK := Lib.hid (x_ok (st := lz) (cp := bc) HIN.out.1 HIN.out.2.2.1 HC6.out HS1.out.log.others HB3.out)
              have hx := HXOK.out
              obtain ⟨lz1, hlz1⟩ : ∃ lz1, lz1 = lz + 1 := ⟨_, rfl⟩
              have HLZ1 := Lib.hid hlz1
              obtain ⟨W5, hW5⟩ : ∃ W5, W3.setCell ⟨w6.heap.size, 0, none⟩ (.int .i64 ((lz : Int) + 1)) = W5 := ⟨_, rfl⟩
              have hX5 : W5.heap[w6.heap.size]? = some (.cells #[.int .i64 (lz1 : Int), .slice bp bl bc] 51 (0, 0)) := by
                rw [← hW5, setCell_eq_setRow W3 _ _ _ _ _ _ HX3.out, setRow_heap W3 _ _ _ _ _ HX3.out, hlz1]
                rfl
              have hc5 : Chg (fun b => b = w6.heap.size) W3 W5 := by rw [← hW5]; exact Chg.setCell W3 ⟨w6.heap.size, 0, none⟩ _
              have hb5 : Below w6.heap.size w6 W5 := hc5.on HB3.out HB3.out.size (fun b e => by rw [show b = w6.heap.size from e]; exact Nat.le_refl _)
              have z0 : W5.cell? ⟨w6.heap.size, 0, none⟩ = some (.int .i64 (lz1 : Int)) := by rw [cell_in hX5]; rfl
              have z1 : W5.cell? ⟨w6.heap.size, 1, none⟩ = some (.slice bp bl bc) := by rw [cell_in hX5]; rfl
              have hk5 := HKL6.out.on hb5
              have hun := fail_ok HS1.out HKL6.out HR6.out hb5 HIN.out.1 HIN.out.2.2.1 HC6.out HLZ.out HLZ1.out HLEN.out.1 HBL0.out (bc := bc)
              have HUN := Lib.hid hun
              have HW5 := Lib.hid hW5
              clear hx hlz1 hX5 hc5 hb5 hk5 hun
              go_wp2
              go_roundw
              case rel => exact ⟨i + 1, P, after, sn, 1, sp, some ⟨W5.heap.size, 0, none⟩, sc, 1, SE, [⟨lz1, bp, bc, a.body⟩], by omega, by go_num, rfl, rfl, rfl, rfl, Lib.hid ⟨HLEN.out.1, rfl⟩, Lib.hid (by have := HAF.out; omega), HUN⟩
              case measure => simp [intOf]; omega
        have t0 : (kd == 0) = false := by simpa using hk0
        by_cases hk1' : kd = 1
        · subst hk1'
          go_wp2_with fail
          rw [HW1.out]
          have hrst := HS1.out.log.reset (by rw [HML.out]; have := HLZ.out; omega)
          have hlst := HS1.out.log.last
          rw [HML.out, ← HLZ.out] at hrst hlst
          refine hlst.mono ?_
          rintro e w5 ⟨rfl, rfl⟩
          clear hlst
          go_wp2_with fail
          refine hrst.mono ?_
          clear hrst
          rintro e w5 ⟨hc5, ⟨rfl, hub, hkl5⟩ | ⟨rfl, hub, rfl⟩⟩
          · have hl5 := hkl5.last
            rw [List.length_nil, Nat.add_zero] at hl5
            have HK5 := Lib.hid hkl5
            clear hkl5 hc5
            go_wp2_with fail
            refine hl5.mono ?_
            rintro e w6 ⟨rfl, rfl⟩
            clear hl5
            go_wp2
            go_roundw
            case rel => exact ⟨i + 1, P, lz, 0, 0, none, none, 0, 0, [], [], by omega, by go_num, rfl, rfl, rfl, rfl, Lib.hid ⟨rfl, rfl⟩, Lib.hid (by have := HAF.out; have := HLZ.out; omega), Lib.hid ⟨HK5.out, ⟨World.ownsRow_nil _ _ _ _, fun x hx => by simp at hx, World.ownsRow_nil _ _ _ _, fun x hx => by simp at hx⟩, fun i h => by simp at h, by simp, fun x hx => by simp at hx, fun _ => rfl⟩⟩
            case measure => simp [intOf]; omega
          · go_wp2
            go_roundw
            case rel => exact ⟨i + 1, P, after, sn, un, sp, up, sc, uc, SE, UE, by omega, by go_num, rfl, rfl, rfl, rfl, HLEN, Lib.hid (by have := HAF.out; omega), HS1⟩
            case measure => simp [intOf]; omega
        have t1 : (kd == 1) = false := by simpa using hk1'
        by_cases hk2' : kd = 2
        · subst hk2'
          obtain ⟨m4, hm4⟩ : ∃ m4 : Nat, sd.tmod 9 + 9 = (m4 : Int) := by
            have h2 := Int.lt_tmod_of_pos sd (b := 9) (by decide)
            exact ⟨(sd.tmod 9 + 9).toNat, by omega⟩
          have hm4b : m4 < 18 := by
            have h1 := Int.tmod_lt_of_pos sd (b := 9) (by decide)
            omega
          obtain ⟨m5, hm5⟩ : ∃ m5, m5 = m4 % 9 := ⟨_, rfl⟩
          have q4 : wrap64 (sd.tmod 9 + 9) = (m4 : Int) := by
            rw [hm4]
            unfold wrap64
            omega
          have q5 : ((m4 : Nat) : Int).tmod 9 = (m5 : Int) := by
            rw [Int.tmod_eq_emod_of_nonneg (by omega)]
            omega
          have hm5b : m5 < 9 := by omega
          clear hm4 hm5
          go_wp2_with fail
          rw [HW1.out]
          refine (HS1.out.log.limit (m5 : Int) (by omega)).mono ?_
          rintro e w5 ⟨rfl, hc5, hkl5⟩
          have hr5 := HS1.out.row.chg hc5 HS1.out.log.others
          have HK5 := Lib.hid (show KSt w w5 P D g k after (.slice sp sn sc) SE (.slice up un uc) UE from ⟨hkl5, hr5, HS1.out.st, HS1.out.few, HS1.out.ust, HS1.out.nil⟩)
          clear hc5 hkl5 hr5
          go_wp2
          go_roundw
          case rel => exact ⟨i + 1, P, after, sn, un, sp, up, sc, uc, SE, UE, by omega, by go_num, rfl, rfl, rfl, rfl, HLEN, Lib.hid (by have := HAF.out; omega), HK5⟩
          case measure => simp [intOf]; omega
        have t2 : (kd == 2) = false := by simpa using hk2'
        by_cases hk3 : kd = 3
        · subst hk3
          go_wp2_with fail
          rw [HW1.out]
          have hcr := HS1.out.log.crash kp kc a.ks (by have := HKL0.out; omega) HIN.out.2.1
          rw [← HKL0.out] at hcr
          refine hcr.mono ?_
          clear hcr
          rintro e w4 ⟨⟨ce, rfl⟩, hc4, hb4, S', hd4, hl4, hh4⟩
          have hap := HS1.out.log.apart
          have hbs := HS1.out.log.base
          have hlt := HS1.out.log.lt
          have hop := open_any D g S' (.slice none 0 0) [] (-1) (by decide) (by decide) (by simp) 0 k after hk1 (by omega) (by omega) (fun x hx => by simp at hx) (by have := HAF.out; omega) w4 hd4 hap.1
          rw [partS_all _ _ hl4] at hop
          have hlt4 : D < w4.heap.size ∧ g < w4.heap.size := ⟨(Array.getElem?_eq_some_iff.1 hd4.box).1, (Array.getElem?_eq_some_iff.1 hd4.dur).1⟩
          have hr4 := HS1.out.row.chg hc4 HS1.out.log.others
          have hoD : Other w w4 (fun b => b = D) := fun b hb => by
            rw [show b = D from hb]
            exact ⟨hbs.2.1, _, _, _, hd4.box, by decide, by decide⟩
          have HC4 := Lib.hid (show _ ∧ _ ∧ _ ∧ _ from ⟨hb4, hl4, hh4, hr4⟩)
          have HOD := Lib.hid hoD
          clear hb4 hc4 hd4 hh4 hr4 hoD
          go_wp2_with fail
          refine hop.mono ?_
          clear hop
          rintro e w5 ⟨P5, v5, E5, rfl, hP5, hO5, hd5, hc5⟩
          obtain ⟨hb4, hl4', hh4, hr4⟩ := HC4.out
          obtain ⟨bs', hho, hbs'⟩ : ∃ bs', Holds S' after bs' ∧ (bs' = SE.map (·.body) ∨ ∃ x, UE = [x] ∧ bs' = SE.map (·.body) ++ [x.body]) := by
            rcases hh4 with h | ⟨b, hb, h⟩
            · exact ⟨_, h, .inl rfl⟩
            · refine ⟨_, h, .inr ?_⟩
              obtain ⟨x, h1, h2⟩ := one_of HS1.out.few hb
              exact ⟨x, h1, by rw [h2]⟩
          have hklo := KLog.opened hb4 ⟨hbs.2.1, hbs.2.2⟩ hap.1 hl4' hlt4 hP5 hO5 hd5 hc5 hho
          have hr5 := hr4.chg hc5 HOD.out
          have hE5n : ∀ x ∈ E5, BodyOk w w5 x := fun x hx => by
            obtain ⟨gb, h1, h2, h3, h4⟩ := hO5.ents x hx
            refine ⟨(hO5.ents x hx).in, fun b o hp hl => ?_⟩
            rw [h1] at hp
            cases hp
            exact .inr ⟨_, _, h4⟩
          have hrow5 : KRow w w5 v5 E5 (.slice none 0 0) [] := ⟨owns_low hO5.row hb4.size, hE5n, World.ownsRow_nil _ _ _ _, fun x hx => by simp at hx⟩
          obtain ⟨p5, c5, rfl, hent5⟩ := hrow5.sent
          obtain ⟨en, hen⟩ : ∃ en, en = E5.length := ⟨_, rfl⟩
          rw [← hen]
          rw [← hen] at hrow5
          have hbE : en ≤ sn + 1 ∧ (bs' = SE.map (·.body) → en = sn) ∧ ((∃ x, UE = [x] ∧ bs' = SE.map (·.body) ++ [x.body]) → en = sn + 1) := by
            have h1 := congrArg List.length hklo.1
            rw [List.length_map, ← hen] at h1
            have h2 := HML.out
            rcases hbs' with h | ⟨x, h3, h⟩
            · rw [h, h2] at h1
              refine ⟨by omega, fun _ => h1, fun ⟨x, h3, h4⟩ => ?_⟩
              have h5 := congrArg List.length (h.symm.trans h4)
              rw [List.length_append, h2] at h5
              simp at h5
            · have h0 := h1
              rw [h, List.length_append, h2] at h1
              refine ⟨by simp at h1; omega, fun h4 => by rw [h4, h2] at h0; exact h0, fun _ => by simpa using h1⟩
          have HST5 := Lib.hid (show KSt w w5 P5 D g k after (.slice p5 en c5) E5 (.slice none 0 0) [] from ⟨by rw [hklo.1]; exact hklo.2, hrow5, hO5.st, by simp, fun x hx => by simp at hx, fun _ => rfl⟩)
          have HENT5 := Lib.hid hent5
          have HROW5 := Lib.hid hr5
          have HBO5 := Lib.hid hklo.1
          have HBS := Lib.hid hbs'
          have HEN := Lib.hid hen
          have HBE := Lib.hid hbE
          have HB45 := Lib.hid (show Below w.heap.size w w5 from hklo.2.below)
          have HST5S := Lib.hid hO5.st
          clear hklo hr5 hE5n hrow5 hent5 hen hbE hO5 hd5 hc5 hho hb4 hl4' hh4 hr4
          have hbs5 : w.heap.size ≤ w5.heap.size := HB45.out.size
          have hun1 : un ≤ 1 := by have := HLEN.out.2; have := HS1.out.few; omega
          have hmadeB : (w5.alloc (.cells #[] 51)).ownsRow w5.heap.size 51 2 (.slice (some ⟨w5.heap.size, 0, none⟩) 0 0) 0 [] := World.ownsRow_made w5 #[] 0 (Nat.le_refl _) (by decide) rfl
          have hsr : (w5.alloc (.cells #[] 51)).ownsRow w.heap.size 51 2 (.slice sp sn sc) sn (eCells SE) := by
            have h := (HROW5.out.on (bA (Below.refl w5.heap.size w5) (.cells #[] 51))).srow
            rw [← HLEN.out.1] at h
            exact h
          have HUR := Lib.hid (fun (X : World) (hX : Below w5.heap.size w5 X) => (show X.ownsRow w.heap.size 51 2 (.slice up un uc) un (eCells UE) by
            have h := (HROW5.out.on hX).urow
            rw [← HLEN.out.2] at h
            exact h))
          have HMB := Lib.hid hmadeB
          have HSR := Lib.hid hsr
          have HLS := Lib.hid (show (eCells SE).length = sn * 2 by rw [eCells_len, HLEN.out.1])
          have HLU := Lib.hid (show (eCells UE).length = un * 2 by rw [eCells_len, HLEN.out.2])
          have hsn40 : sn ≤ 32 := by have := HAF.out; omega
          clear hmadeB hsr
          go_wp2_with (first
            | (at_builtin; refine append_ents rfl (.tmp 143) (.tmp 144) rfl w5.heap.size _ 0 [] rfl HMB.out w.heap.size _ sn (eCells SE) rfl HSR.out (eCells_one SE) HLS.out (by omega) (by simp) ?_; intro v6 w6 hrow6 hg6 hv6n; have HR6 := Lib.hid hrow6; have HB6 := Lib.hid (made_below hg6); clear hrow6 hg6 hv6n)
            | (at_builtin; refine append_ents rfl (.tmp 145) (.tmp 146) rfl w5.heap.size _ (0 + sn) ([] ++ eCells SE) rfl HR6.out w.heap.size _ un (eCells UE) rfl (HUR.out w6 HB6.out) (eCells_one UE) HLU.out (by omega) HB6.out.size ?_; intro v7 w7 hrow7 hg7 hv7n; obtain ⟨p7, c7, rfl, hent7⟩ := more_row HLEN.out.1 HLEN.out.2 hrow7 (fun x hx => ((HROW5.out.on (grown_below HB6.out HR6.out hg7)).sbody x hx).1) (fun x hx => ((HROW5.out.on (grown_below HB6.out HR6.out hg7)).ubody x hx).1); have HE7 := Lib.hid hent7; have HB7 := Lib.hid (grown_below HB6.out HR6.out hg7); clear hrow7 hg7 hv7n hent7))
          have HENT7 := Lib.hid (HENT5.out.on HB7.out)
          obtain ⟨psx, csx, hsx, hesx⟩ := (HROW5.out.on HB7.out).sent
          rw [← HLEN.out.1] at hsx
          cases hsx
          have HES := Lib.hid hesx
          clear hesx
          rcases HBS.out with hbsE | ⟨xu, hxu, hbsE⟩
          · have hen : en = sn := HBE.out.2.1 hbsE
            subst hen
            have hsame := same_true p5 sp en c5 sc E5 SE (by omega) HEN.out (same_of HST5S.out HS1.out.st (HBO5.out.trans hbsE)) w7 HENT7.out HES.out
            clear hbsE
            go_wp2_with fail
            refine hsame.mono ?_
            rintro e w8 ⟨rfl, hb8⟩
            have HB8 := Lib.hid hb8
            clear hb8 hsame
            go_wp2
            go_roundw
            case rel => exact ⟨i + 1, P5, after, en, 0, p5, none, c5, 0, E5, [], by omega, by go_num, rfl, rfl, rfl, rfl, Lib.hid ⟨HEN.out, rfl⟩, Lib.hid (by have := HAF.out; omega), Lib.hid (HST5.out.on (HB7.out.trans (HB8.out.mono HB7.out.size)))⟩
            case measure => simp [intOf]; omega
          · have hen : en = sn + 1 := HBE.out.2.2 ⟨xu, hxu, hbsE⟩
            have hul : un = 1 := by rw [HLEN.out.2, hxu]; rfl
            have hsl := same_len p5 sp en sn c5 sc (by omega) w7
            have hsame := same_true p5 p7 en c5 c7 E5 (SE ++ UE) (by omega) HEN.out (same_under HST5S.out HS1.out.st HS1.out.ust hxu (HBO5.out.trans hbsE)) w7 HENT7.out HE7.out
            have hnm : 0 + sn + un = en := by omega
            have hnm2 : sn + un = en := by omega
            first | rw [hnm] | rw [hnm2]
            subst hul
            have HEN1 := Lib.hid hen
            have hsn1 : sn ≤ 32 := by omega
            clear hbsE hnm hnm2 hen
            go_wp2_with fail
            refine hsl.mono ?_
            rintro e w8 ⟨rfl, rfl⟩
            go_wp2_with fail
            refine hsame.mono ?_
            rintro e w8 ⟨rfl, hb8⟩
            have HB8 := Lib.hid hb8
            clear hb8 hsame hsl
            go_wp2
            go_roundw
            case rel => exact ⟨i + 1, P5, after, en, 0, p5, none, c5, 0, E5, [], by omega, by go_num, rfl, rfl, rfl, rfl, Lib.hid ⟨HEN.out, rfl⟩, Lib.hid (by have := HAF.out; have := HEN1.out; omega), Lib.hid (HST5.out.on (HB7.out.trans (HB8.out.mono HB7.out.size)))⟩
            case measure => simp [intOf]; omega
        have t3 : (kd == 3) = false := by simpa using hk3
        go_wp2
        rw [HW1.out]
        go_roundw
        case rel => exact ⟨i + 1, P, after, sn, un, sp, up, sc, uc, SE, UE, by omega, by go_num, rfl, rfl, rfl, rfl, HLEN, Lib.hid (by have := HAF.out; omega), HS1⟩
        case measure => simp [intOf]; omega
      · have e2 : decide ((i : Int) < (N : Int)) = false := decide_eq_false (by omega)
        have e2' : decide (i < N) = false := decide_eq_false hlt
        obtain ⟨W1, hW1⟩ : ∃ W1, wr.alloc (.cells #[.int .i64 3, .int .i64 0, .slice none 0 0, .slice none 0 0] 49) = W1 := ⟨_, rfl⟩
        have hb1' : Below wr.heap.size wr W1 := by rw [← hW1]; exact bA (Below.refl _ _) _
        have HS1 := Lib.hid (HS.out.on hb1')
        have HW1 := Lib.hid hW1
        have HML := Lib.hid (show (SE.map (·.body)).length = sn by rw [List.length_map]; exact HLEN.out.1.symm)
        clear hb1' hW1
        go_wp2_with fail
        rw [HW1.out]
        have hcr := HS1.out.log.crash none 0 [] (by simp) (fun j hj => by simp at hj)
        rw [List.length_nil] at hcr
        refine hcr.mono ?_
        clear hcr
        rintro e w4 ⟨⟨ce, rfl⟩, hc4, hb4, S', hd4, hl4, hh4⟩
        have hap := HS1.out.log.apart
        have hbs := HS1.out.log.base
        have hlt := HS1.out.log.lt
        have hop := open_any D g S' (.slice none 0 0) [] (-1) (by decide) (by decide) (by simp) 0 k after hk1 (by omega) (by omega) (fun x hx => by simp at hx) (by have := HAF.out; omega) w4 hd4 hap.1
        rw [partS_all _ _ hl4] at hop
        have hlt4 : D < w4.heap.size ∧ g < w4.heap.size := ⟨(Array.getElem?_eq_some_iff.1 hd4.box).1, (Array.getElem?_eq_some_iff.1 hd4.dur).1⟩
        have hr4 := HS1.out.row.chg hc4 HS1.out.log.others
        have hoD : Other w w4 (fun b => b = D) := fun b hb => by
          rw [show b = D from hb]
          exact ⟨hbs.2.1, _, _, _, hd4.box, by decide, by decide⟩
        have HC4 := Lib.hid (show _ ∧ _ ∧ _ ∧ _ from ⟨hb4, hl4, hh4, hr4⟩)
        have HOD := Lib.hid hoD
        clear hb4 hc4 hd4 hh4 hr4 hoD
        go_wp2_with fail
        refine hop.mono ?_
        clear hop
        rintro e w5 ⟨P5, v5, E5, rfl, hP5, hO5, hd5, hc5⟩
        obtain ⟨hb4, hl4', hh4, hr4⟩ := HC4.out
        obtain ⟨bs', hho, hbs'⟩ : ∃ bs', Holds S' after bs' ∧ (bs' = SE.map (·.body) ∨ ∃ x, UE = [x] ∧ bs' = SE.map (·.body) ++ [x.body]) := by
          rcases hh4 with h | ⟨b, hb, h⟩
          · exact ⟨_, h, .inl rfl⟩
          · refine ⟨_, h, .inr ?_⟩
            obtain ⟨x, h1, h2⟩ := one_of HS1.out.few hb
            exact ⟨x, h1, by rw [h2]⟩
        have hklo := KLog.opened hb4 ⟨hbs.2.1, hbs.2.2⟩ hap.1 hl4' hlt4 hP5 hO5 hd5 hc5 hho
        have hr5 := hr4.chg hc5 HOD.out
        have hE5n : ∀ x ∈ E5, BodyOk w w5 x := fun x hx => by
          obtain ⟨gb, h1, h2, h3, h4⟩ := hO5.ents x hx
          refine ⟨(hO5.ents x hx).in, fun b o hp hl => ?_⟩
          rw [h1] at hp
          cases hp
          exact .inr ⟨_, _, h4⟩
        have hrow5 : KRow w w5 v5 E5 (.slice none 0 0) [] := ⟨owns_low hO5.row hb4.size, hE5n, World.ownsRow_nil _ _ _ _, fun x hx => by simp at hx⟩
        obtain ⟨p5, c5, rfl, hent5⟩ := hrow5.sent
        obtain ⟨en, hen⟩ : ∃ en, en = E5.length := ⟨_, rfl⟩
        rw [← hen]
        rw [← hen] at hrow5
        have hbE : en ≤ sn + 1 ∧ (bs' = SE.map (·.body) → en = sn) ∧ ((∃ x, UE = [x] ∧ bs' = SE.map (·.body) ++ [x.body]) → en = sn + 1) := by
          have h1 := congrArg List.length hklo.1
          rw [List.length_map, ← hen] at h1
          have h2 := HML.out
          rcases hbs' with h | ⟨x, h3, h⟩
          · rw [h, h2] at h1
            refine ⟨by omega, fun _ => h1, fun ⟨x, h3, h4⟩ => ?_⟩
            have h5 := congrArg List.length (h.symm.trans h4)
            rw [List.length_append, h2] at h5
            simp at h5
          · have h0 := h1
            rw [h, List.length_append, h2] at h1
            refine ⟨by simp at h1; omega, fun h4 => by rw [h4, h2] at h0; exact h0, fun _ => by simpa using h1⟩
        have HST5 := Lib.hid (show KSt w w5 P5 D g k after (.slice p5 en c5) E5 (.slice none 0 0) [] from ⟨by rw [hklo.1]; exact hklo.2, hrow5, hO5.st, by simp, fun x hx => by simp at hx, fun _ => rfl⟩)
        have HENT5 := Lib.hid hent5
        have HROW5 := Lib.hid hr5
        have HBO5 := Lib.hid hklo.1
        have HBS := Lib.hid hbs'
        have HEN := Lib.hid hen
        have HBE := Lib.hid hbE
        have HB45 := Lib.hid (show Below w.heap.size w w5 from hklo.2.below)
        have HST5S := Lib.hid hO5.st
        clear hklo hr5 hE5n hrow5 hent5 hen hbE hO5 hd5 hc5 hho hb4 hl4' hh4 hr4
        have hbs5 : w.heap.size ≤ w5.heap.size := HB45.out.size
        have hun1 : un ≤ 1 := by have := HLEN.out.2; have := HS1.out.few; omega
        have hmadeB : (w5.alloc (.cells #[] 51)).ownsRow w5.heap.size 51 2 (.slice (some ⟨w5.heap.size, 0, none⟩) 0 0) 0 [] := World.ownsRow_made w5 #[] 0 (Nat.le_refl _) (by decide) rfl
        have hsr : (w5.alloc (.cells #[] 51)).ownsRow w.heap.size 51 2 (.slice sp sn sc) sn (eCells SE) := by
          have h := (HROW5.out.on (bA (Below.refl w5.heap.size w5) (.cells #[] 51))).srow
          rw [← HLEN.out.1] at h
          exact h
        have HUR := Lib.hid (fun (X : World) (hX : Below w5.heap.size w5 X) => (show X.ownsRow w.heap.size 51 2 (.slice up un uc) un (eCells UE) by
          have h := (HROW5.out.on hX).urow
          rw [← HLEN.out.2] at h
          exact h))
        have HMB := Lib.hid hmadeB
        have HSR := Lib.hid hsr
        have HLS := Lib.hid (show (eCells SE).length = sn * 2 by rw [eCells_len, HLEN.out.1])
        have HLU := Lib.hid (show (eCells UE).length = un * 2 by rw [eCells_len, HLEN.out.2])
        have hsn40 : sn ≤ 32 := by have := HAF.out; omega
        clear hmadeB hsr
        go_wp2_with (first
          | (at_builtin; refine append_ents rfl (.tmp 143) (.tmp 144) rfl w5.heap.size _ 0 [] rfl HMB.out w.heap.size _ sn (eCells SE) rfl HSR.out (eCells_one SE) HLS.out (by omega) (by simp) ?_; intro v6 w6 hrow6 hg6 hv6n; have HR6 := Lib.hid hrow6; have HB6 := Lib.hid (made_below hg6); clear hrow6 hg6 hv6n)
          | (at_builtin; refine append_ents rfl (.tmp 145) (.tmp 146) rfl w5.heap.size _ (0 + sn) ([] ++ eCells SE) rfl HR6.out w.heap.size _ un (eCells UE) rfl (HUR.out w6 HB6.out) (eCells_one UE) HLU.out (by omega) HB6.out.size ?_; intro v7 w7 hrow7 hg7 hv7n; obtain ⟨p7, c7, rfl, hent7⟩ := more_row HLEN.out.1 HLEN.out.2 hrow7 (fun x hx => ((HROW5.out.on (grown_below HB6.out HR6.out hg7)).sbody x hx).1) (fun x hx => ((HROW5.out.on (grown_below HB6.out HR6.out hg7)).ubody x hx).1); have HE7 := Lib.hid hent7; have HB7 := Lib.hid (grown_below HB6.out HR6.out hg7); clear hrow7 hg7 hv7n hent7))
        have HENT7 := Lib.hid (HENT5.out.on HB7.out)
        obtain ⟨psx, csx, hsx, hesx⟩ := (HROW5.out.on HB7.out).sent
        rw [← HLEN.out.1] at hsx
        cases hsx
        have HES := Lib.hid hesx
        clear hesx
        rcases HBS.out with hbsE | ⟨xu, hxu, hbsE⟩
        · have hen : en = sn := HBE.out.2.1 hbsE
          subst hen
          have hsame := same_true p5 sp en c5 sc E5 SE (by omega) HEN.out (same_of HST5S.out HS1.out.st (HBO5.out.trans hbsE)) w7 HENT7.out HES.out
          clear hbsE
          go_wp2_with fail
          refine hsame.mono ?_
          rintro e w8 ⟨rfl, hb8⟩
          have HB8 := Lib.hid hb8
          clear hb8 hsame
          go_wp2
          go_roundw
          case rel => exact ⟨i + 1, P5, after, en, 0, p5, none, c5, 0, E5, [], by omega, by go_num, rfl, rfl, rfl, rfl, Lib.hid ⟨HEN.out, rfl⟩, Lib.hid (by have := HAF.out; omega), Lib.hid (HST5.out.on (HB7.out.trans (HB8.out.mono HB7.out.size)))⟩
          case measure => simp [intOf]; omega
        · have hen : en = sn + 1 := HBE.out.2.2 ⟨xu, hxu, hbsE⟩
          have hul : un = 1 := by rw [HLEN.out.2, hxu]; rfl
          have hsl := same_len p5 sp en sn c5 sc (by omega) w7
          have hsame := same_true p5 p7 en c5 c7 E5 (SE ++ UE) (by omega) HEN.out (same_under HST5S.out HS1.out.st HS1.out.ust hxu (HBO5.out.trans hbsE)) w7 HENT7.out HE7.out
          have hnm : 0 + sn + un = en := by omega
          have hnm2 : sn + un = en := by omega
          first | rw [hnm] | rw [hnm2]
          subst hul
          have HEN1 := Lib.hid hen
          have hsn1 : sn ≤ 32 := by omega
          clear hbsE hnm hnm2 hen
          go_wp2_with fail
          refine hsl.mono ?_
          rintro e w8 ⟨rfl, rfl⟩
          go_wp2_with fail
          refine hsame.mono ?_
          rintro e w8 ⟨rfl, hb8⟩
          have HB8 := Lib.hid hb8
          clear hb8 hsame hsl
          go_wp2
          go_roundw
          case rel => exact ⟨i + 1, P5, after, en, 0, p5, none, c5, 0, E5, [], by omega, by go_num, rfl, rfl, rfl, rfl, Lib.hid ⟨HEN.out, rfl⟩, Lib.hid (by have := HAF.out; have := HEN1.out; omega), Lib.hid (HST5.out.on (HB7.out.trans (HB8.out.mono HB7.out.size)))⟩
          case measure => simp [intOf]; omega
    · have e1 : decide ((i : Int) ≤ (N : Int)) = false := decide_eq_false (by omega)
      have e1' : decide (i ≤ N) = false := decide_eq_false hle
      have HBZ := Lib.hid HS.out.log.below
      go_wp2
      go_ret
      exact ⟨rfl, HBZ.out⟩
end Go.Proofs.Ytnnpfehfoaojfaa
