/-
  Plain mathematics for package crc: a register of 32 bits, its shift, what a change of four neighbouring bytes does to it. Of no program.
-/
namespace Go.Proofs.Crc

def poly : Nat := 3988292384
def sh (r : Nat) : Nat := if r % 2 = 1 then (r / 2) ^^^ poly else r / 2
def shn : Nat → Nat → Nat
  | 0, r => r
  | n + 1, r => shn n (sh r)
def step (r b : Nat) : Nat := shn 8 (r ^^^ b)
def reg (r : Nat) (l : List Nat) : Nat := l.foldl step r
def crc (l : List Nat) : Nat := reg 4294967295 l ^^^ 4294967295
def word : List Nat → Nat
  | [] => 0
  | d :: t => d + 256 * word t
def le4 (n : Nat) : List Nat := [n % 256, n / 256 % 256, n / 65536 % 256, n / 16777216 % 256]
def Octets (l : List Nat) : Prop := ∀ x ∈ l, x < 256

theorem xor_lt (a b : Nat) (ha : a < 4294967296) (hb : b < 4294967296) : a ^^^ b < 4294967296 := Nat.xor_lt_two_pow (n := 32) ha hb

theorem join (k d w : Nat) (h : d < 2 ^ k) : d + 2 ^ k * w = d ^^^ (2 ^ k * w) := by
  apply Nat.eq_of_testBit_eq
  intro i
  rw [Nat.testBit_xor, Nat.add_comm, Nat.testBit_two_pow_mul_add _ h]
  rw [Nat.testBit_two_pow_mul]
  by_cases hi : i < k
  · simp [hi, Nat.not_le.2 hi]
  · have : d.testBit i = false := Nat.testBit_lt_two_pow (Nat.lt_of_lt_of_le h (Nat.pow_le_pow_right (by decide) (by omega)))
    simp [hi, this, Nat.le_of_not_lt hi]

theorem xor_self_cancel (a b : Nat) : a ^^^ (a ^^^ b) = b := by rw [← Nat.xor_assoc, Nat.xor_self, Nat.zero_xor]
theorem eq_of_xor_zero {a b : Nat} (h : a ^^^ b = 0) : a = b := by
  have := xor_self_cancel a b
  rw [h, Nat.xor_zero] at this
  exact this

theorem sh_xor (a b : Nat) : sh (a ^^^ b) = sh a ^^^ sh b := by
  unfold sh
  have hm : (a ^^^ b) % 2 = (a % 2) ^^^ (b % 2) := Nat.xor_mod_two_pow (n := 1)
  rw [Nat.xor_div_two, hm]
  rcases Nat.mod_two_eq_zero_or_one a with ha | ha <;> rcases Nat.mod_two_eq_zero_or_one b with hb | hb
  · rw [ha, hb]; rfl
  · rw [ha, hb, if_pos (by decide), if_neg (by decide), if_pos rfl, Nat.xor_assoc]
  · rw [ha, hb, if_pos (by decide), if_pos rfl, if_neg (by decide), Nat.xor_assoc, Nat.xor_assoc, Nat.xor_comm (b / 2) poly]
  · rw [ha, hb, if_neg (by decide), if_pos rfl, if_pos rfl, Nat.xor_assoc (a / 2), Nat.xor_comm (b / 2) poly, xor_self_cancel]

theorem sh_lt (r : Nat) (h : r < 4294967296) : sh r < 4294967296 := by
  unfold sh
  split
  · exact xor_lt _ _ (by omega) (by decide)
  · omega

theorem sh_zero (r : Nat) (h : r < 4294967296) (e : sh r = 0) : r = 0 := by
  unfold sh at e
  split at e
  · have : r / 2 = poly := eq_of_xor_zero e
    unfold poly at this
    omega
  · omega

theorem sh_two (y : Nat) : sh (2 * y) = y := by
  unfold sh
  rw [if_neg (by omega)]
  omega

theorem shn_xor (n : Nat) : ∀ a b, shn n (a ^^^ b) = shn n a ^^^ shn n b := by
  induction n with
  | zero => intro a b; rfl
  | succ n ih => intro a b; show shn n (sh (a ^^^ b)) = _; rw [sh_xor, ih]; rfl
theorem shn_lt (n : Nat) : ∀ r, r < 4294967296 → shn n r < 4294967296 := by
  induction n with
  | zero => intro r h; exact h
  | succ n ih => intro r h; exact ih _ (sh_lt r h)
theorem shn_zero (n : Nat) : ∀ r, r < 4294967296 → shn n r = 0 → r = 0 := by
  induction n with
  | zero => intro r _ e; exact e
  | succ n ih => intro r h e; exact sh_zero r h (ih _ (sh_lt r h) e)
theorem shn_inj (n a b : Nat) (ha : a < 4294967296) (hb : b < 4294967296) (h : shn n a = shn n b) : a = b := by
  apply eq_of_xor_zero
  apply shn_zero n _ (xor_lt a b ha hb)
  rw [shn_xor, h, Nat.xor_self]
theorem shn_add (m n : Nat) : ∀ r, shn (m + n) r = shn n (shn m r) := by
  induction m with
  | zero => intro r; rw [Nat.zero_add]; rfl
  | succ m ih => intro r; rw [Nat.add_right_comm]; exact ih _
theorem shn_pow (k : Nat) : ∀ y, shn k (2 ^ k * y) = y := by
  induction k with
  | zero => intro y; rw [Nat.pow_zero, Nat.one_mul]; rfl
  | succ k ih =>
    intro y
    show shn k (sh (2 ^ (k + 1) * y)) = y
    rw [Nat.pow_succ, Nat.mul_comm (2 ^ k) 2, Nat.mul_assoc, sh_two, ih]

/-- a look-up replaces four shifts -/
theorem four (r : Nat) : r / 16 ^^^ shn 4 (r % 16) = shn 4 r := by
  have e : r % 16 + 2 ^ 4 * (r / 16) = r := by omega
  have j := join 4 (r % 16) (r / 16) (by omega)
  rw [e] at j
  have := shn_xor 4 (r % 16) (2 ^ 4 * (r / 16))
  rw [← j, shn_pow] at this
  rw [this, Nat.xor_comm]

theorem step_lt (r b : Nat) (hr : r < 4294967296) (hb : b < 256) : step r b < 4294967296 := shn_lt 8 _ (xor_lt _ _ hr (by omega))
theorem reg_lt (l : List Nat) : ∀ r, r < 4294967296 → Octets l → reg r l < 4294967296 := by
  induction l with
  | nil => intro r h _; exact h
  | cons d t ih => intro r h ho; exact ih _ (step_lt r d h (ho d (by simp))) (fun x hx => ho x (by simp [hx]))
theorem reg_append (r : Nat) (a b : List Nat) : reg r (a ++ b) = reg (reg r a) b := by simp [reg, List.foldl_append]
theorem crc_lt (l : List Nat) (h : Octets l) : crc l < 4294967296 := xor_lt _ _ (reg_lt l _ (by decide) h) (by decide)

/-- feeding bytes one by one = feeding them at once -/
theorem reg_word (l : List Nat) : ∀ r, Octets l → reg r l = shn (8 * l.length) (r ^^^ word l) := by
  induction l with
  | nil => intro r _; simp [reg, word, shn]
  | cons d t ih =>
    intro r ho
    have hd : d < 2 ^ 8 := by simpa using ho d (by simp)
    show reg (step r d) t = _
    rw [ih _ (fun x hx => ho x (by simp [hx]))]
    show _ = shn (8 * (t.length + 1)) (r ^^^ (d + 256 * word t))
    have j := join 8 d (word t) hd
    rw [show 8 * (t.length + 1) = 8 + 8 * t.length by omega, shn_add, show (256 : Nat) = 2 ^ 8 from rfl, j, ← Nat.xor_assoc, shn_xor 8, shn_pow]
    rfl

theorem reg_inj (q : List Nat) : ∀ a b, a < 4294967296 → b < 4294967296 → Octets q → reg a q = reg b q → a = b := by
  intro a b ha hb hq h
  have hw : ∀ q : List Nat, Octets q → ∀ a b, a < 4294967296 → b < 4294967296 → reg a q = reg b q → a = b := by
    intro q
    induction q with
    | nil => intro _ a b _ _ h; exact h
    | cons d t ih =>
      intro ho a b ha hb h
      have hd : d < 256 := ho d (by simp)
      have := ih (fun x hx => ho x (by simp [hx])) _ _ (step_lt a d ha hd) (step_lt b d hb hd) h
      have := shn_inj 8 _ _ (xor_lt _ _ ha (by omega)) (xor_lt _ _ hb (by omega)) this
      have h2 : d ^^^ (a ^^^ d) = d ^^^ (b ^^^ d) := by rw [this]
      rw [Nat.xor_comm a d, Nat.xor_comm b d, xor_self_cancel, xor_self_cancel] at h2
      exact h2
  exact hw q hq a b ha hb h

theorem word4_lt {d : List Nat} (ho : Octets d) (hl : d.length = 4) : word d < 4294967296 := by
  match d, hl with
  | [a, b, c, e], _ =>
    have := ho a (by simp); have := ho b (by simp); have := ho c (by simp); have := ho e (by simp)
    simp only [word]; omega
theorem word4_inj {d e : List Nat} (hd : Octets d) (he : Octets e) (ld : d.length = 4) (le : e.length = 4) (h : word d = word e) : d = e := by
  match d, ld, e, le with
  | [a, b, c, f], _, [a', b', c', f'], _ =>
    have := hd a (by simp); have := hd b (by simp); have := hd c (by simp); have := hd f (by simp)
    have := he a' (by simp); have := he b' (by simp); have := he c' (by simp); have := he f' (by simp)
    simp only [word] at h
    have h1 : a = a' := by omega
    have h2 : b = b' := by omega
    have h3 : c = c' := by omega
    have h4 : f = f' := by omega
    rw [h1, h2, h3, h4]

theorem xor_left_inj {a b c : Nat} (h : a ^^^ b = a ^^^ c) : b = c := by rw [← xor_self_cancel a b, h, xor_self_cancel]

/-- four neighbouring bytes that are others leave another register -/
theorem four_apart {p d e q : List Nat} (hp : Octets p) (hd : Octets d) (he : Octets e) (hq : Octets q) (ld : d.length = 4) (le : e.length = 4) (r : Nat) (hr : r < 4294967296)
    (h : reg r (p ++ d ++ q) = reg r (p ++ e ++ q)) : d = e := by
  rw [reg_append, reg_append, reg_append, reg_append] at h
  have hR := reg_lt p r hr hp
  have h1 := reg_inj q _ _ (reg_lt d _ hR hd) (reg_lt e _ hR he) hq h
  rw [reg_word d _ hd, reg_word e _ he, ld, le] at h1
  have h2 := shn_inj _ _ _ (xor_lt _ _ hR (word4_lt hd ld)) (xor_lt _ _ hR (word4_lt he le)) h1
  exact word4_inj hd he ld le (xor_left_inj h2)

theorem crc_apart {p d e q : List Nat} (hp : Octets p) (hd : Octets d) (he : Octets e) (hq : Octets q) (ld : d.length = 4) (le : e.length = 4) :
    crc (p ++ d ++ q) = crc (p ++ e ++ q) ↔ d = e := by
  constructor
  · intro h
    unfold crc at h
    rw [Nat.xor_comm, Nat.xor_comm (reg _ (p ++ e ++ q))] at h
    exact four_apart hp hd he hq ld le _ (by decide) (xor_left_inj h)
  · rintro rfl; rfl

theorem le4_octets (n : Nat) : Octets (le4 n) := by
  intro x hx
  simp only [le4, List.mem_cons, List.not_mem_nil, or_false] at hx
  rcases hx with rfl | rfl | rfl | rfl <;> omega
theorem word_le4 (n : Nat) (h : n < 4294967296) : word (le4 n) = n := by simp only [le4, word]; omega

theorem octets_append {a b : List Nat} (ha : Octets a) (hb : Octets b) : Octets (a ++ b) := by
  intro x hx
  rcases List.mem_append.1 hx with h | h
  · exact ha x h
  · exact hb x h

/-- what the register holds behind every sealed text, and behind no other -/
theorem sealed_iff {b t : List Nat} (hb : Octets b) (ht : Octets t) (lt : t.length = 4) : t = le4 (crc b) ↔ reg 4294967295 (b ++ t) = shn 32 4294967295 := by
  have hR := reg_lt b 4294967295 (by decide) hb
  rw [reg_append, reg_word t _ ht, lt]
  constructor
  · intro e
    have : word t = crc b := by rw [e, word_le4 _ (crc_lt b hb)]
    rw [this]
    unfold crc
    rw [xor_self_cancel]
  · intro e
    have h := shn_inj 32 _ _ (xor_lt _ _ hR (word4_lt ht lt)) (by decide) e
    apply word4_inj ht (le4_octets _) lt rfl
    rw [word_le4 _ (crc_lt b hb)]
    unfold crc
    have h2 := xor_self_cancel (reg 4294967295 b) (word t)
    rw [h] at h2
    exact h2.symm

/-- the statement's own alteration: four bytes from place k on, one by one -/
def alt (f : Nat → Nat → Nat) (k : Nat) (ws : List Nat) : Nat → List Nat → List Nat
  | 0, s => s
  | i + 1, s => (alt f k ws i s).set (k + i) (f ((alt f k ws i s).getD (k + i) 0) (ws.getD i 0))

theorem alt_len (f : Nat → Nat → Nat) (k : Nat) (ws : List Nat) (i : Nat) (s : List Nat) : (alt f k ws i s).length = s.length := by
  induction i with
  | zero => rfl
  | succ i ih => simp [alt, ih]

theorem alt_octets (f : Nat → Nat → Nat) (hf : ∀ a b, a < 256 → b < 256 → f a b < 256) (k : Nat) (ws : List Nat) (hw : Octets ws) (i : Nat) (s : List Nat) (hs : Octets s) : Octets (alt f k ws i s) := by
  have gd : ∀ (l : List Nat) j, Octets l → l.getD j 0 < 256 := by
    intro l j hl
    rw [List.getD_eq_getElem?_getD]
    rcases h : l[j]? with _ | x
    · simp
    · exact hl x (List.mem_of_getElem? h)
  induction i with
  | zero => exact hs
  | succ i ih =>
    intro x hx
    rcases List.mem_or_eq_of_mem_set hx with h | h
    · exact ih x h
    · rw [h]; exact hf _ _ (gd _ _ ih) (gd _ _ hw)

theorem cut4 (s : List Nat) (k : Nat) (h : k + 4 ≤ s.length) : ∃ p a b c d q, s = p ++ [a, b, c, d] ++ q ∧ p.length = k := by
  have h1 : (s.drop k).length = s.length - k := List.length_drop ..
  match hd : s.drop k, h1 with
  | [], h1 => simp at h1; omega
  | [_], h1 => simp at h1; omega
  | [_, _], h1 => simp at h1; omega
  | [_, _, _], h1 => simp at h1; omega
  | a :: b :: c :: d :: q, _ =>
    refine ⟨s.take k, a, b, c, d, q, ?_, by rw [List.length_take]; omega⟩
    have := (List.take_append_drop k s).symm
    rw [hd] at this
    simpa using this

theorem alt4 (f : Nat → Nat → Nat) (p q : List Nat) (a b c d x y z u : Nat) :
    alt f p.length [x, y, z, u] 4 (p ++ [a, b, c, d] ++ q) = p ++ [f a x, f b y, f c z, f d u] ++ q := by
  simp [alt, List.set_append_right, List.getD_eq_getElem?_getD]

theorem xor_byte (a b : Nat) (ha : a < 256) (hb : b < 256) : a ^^^ b < 256 := Nat.xor_lt_two_pow (n := 8) ha hb
theorem xor_same {a b : Nat} : a ^^^ b = a ↔ b = 0 := by
  constructor
  · intro h
    have : a ^^^ (a ^^^ b) = 0 := by rw [h, Nat.xor_self]
    rwa [xor_self_cancel] at this
  · rintro rfl; exact Nat.xor_zero a

/-- CrcTurns' mathematics -/
theorem turns (b : List Nat) (hb : Octets b) (k : Nat) (hk : k ≤ b.length) (x y z u : Nat) (hw : Octets [x, y, z, u]) :
    let s' := alt (· ^^^ ·) k [x, y, z, u] 4 (b ++ le4 (crc b))
    s'.drop b.length = le4 (crc (s'.take b.length)) ↔ (x = 0 ∧ y = 0 ∧ z = 0 ∧ u = 0) := by
  intro s'
  have hs : Octets (b ++ le4 (crc b)) := octets_append hb (le4_octets _)
  have hs' : Octets s' := alt_octets _ xor_byte k _ hw 4 _ hs
  have hl : s'.length = b.length + 4 := by rw [alt_len]; simp [le4]
  have key := sealed_iff (b := s'.take b.length) (t := s'.drop b.length) (fun x hx => hs' x (List.mem_of_mem_take hx)) (fun x hx => hs' x (List.mem_of_mem_drop hx)) (by rw [List.length_drop, hl]; omega)
  rw [List.take_append_drop] at key
  rw [key]
  have key0 := (sealed_iff hb (le4_octets (crc b)) rfl).1 rfl
  rw [← key0]
  obtain ⟨p, a, c, d, e, q, hcut, hp⟩ := cut4 (b ++ le4 (crc b)) k (by simp [le4]; omega)
  have he : s' = p ++ [a ^^^ x, c ^^^ y, d ^^^ z, e ^^^ u] ++ q := by
    show alt (· ^^^ ·) k [x, y, z, u] 4 (b ++ le4 (crc b)) = _
    rw [hcut, ← hp]; exact alt4 _ p q a c d e x y z u
  rw [he] at hs' ⊢
  rw [hcut] at hs ⊢
  have o1 : Octets p := fun x hx => hs x (by simp [hx])
  have o2 : Octets q := fun x hx => hs x (by simp [hx])
  have o3 : Octets [a, c, d, e] := fun x hx => hs x (List.mem_append.2 (.inl (List.mem_append.2 (.inr hx))))
  have o4 : Octets [a ^^^ x, c ^^^ y, d ^^^ z, e ^^^ u] := fun x hx => hs' x (List.mem_append.2 (.inl (List.mem_append.2 (.inr hx))))
  constructor
  · intro h
    have := four_apart o1 o4 o3 o2 rfl rfl _ (by decide) h
    simp only [List.cons.injEq, and_true, xor_same] at this
    exact this
  · rintro ⟨rfl, rfl, rfl, rfl⟩
    simp

/-- CrcApart's mathematics -/
theorem apart (b : List Nat) (hb : Octets b) (k : Nat) (hk : k + 4 ≤ b.length) (x y z u : Nat) (hw : Octets [x, y, z, u]) :
    crc b = crc (alt (fun _ w => w) k [x, y, z, u] 4 b) ↔ b = alt (fun _ w => w) k [x, y, z, u] 4 b := by
  obtain ⟨p, a, c, d, e, q, hcut, hp⟩ := cut4 b k hk
  have he : alt (fun _ w => w) k [x, y, z, u] 4 b = p ++ [x, y, z, u] ++ q := by
    rw [hcut, ← hp]; exact alt4 _ p q a c d e x y z u
  rw [he]
  subst hcut
  have o1 : Octets p := fun x hx => hb x (by simp [hx])
  have o2 : Octets q := fun x hx => hb x (by simp [hx])
  have o3 : Octets [a, c, d, e] := fun x hx => hb x (List.mem_append.2 (.inl (List.mem_append.2 (.inr hx))))
  rw [crc_apart o1 o3 hw o2 rfl rfl]
  simp

theorem crc_digits : crc [49, 50, 51, 52, 53, 54, 55, 56, 57] = 3421780262 := by decide +kernel
theorem crc_nil : crc [] = 0 := by decide +kernel

#print axioms turns
#print axioms apart
#print axioms crc_digits
end Go.Proofs.Crc
