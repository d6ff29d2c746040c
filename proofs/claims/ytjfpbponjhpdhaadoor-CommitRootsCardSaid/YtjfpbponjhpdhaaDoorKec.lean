/-
  The Keccak permutation on 25 words of 64 bits: plain definitions, and why it turns no two states into one. Own work; no Go in sight.
-/
import Derived.Below
namespace Go.Proofs.YtjfpbponjhpdhaaDoor
set_option linter.unusedVariables false
namespace Kc
abbrev Wd64 := BitVec 64
def rotl (x : Wd64) (r : Nat) : Wd64 := x.rotateLeft r
/-- The parity of a column. -/
def par (a : Nat → Wd64) (x : Nat) : Wd64 := a x ^^^ a (x + 5) ^^^ a (x + 10) ^^^ a (x + 15) ^^^ a (x + 20)
def dd (a : Nat → Wd64) (x : Nat) : Wd64 := par a ((x + 4) % 5) ^^^ rotl (par a ((x + 1) % 5)) 1
def theta (a : Nat → Wd64) (j : Nat) : Wd64 := a j ^^^ dd a (j % 5)
/-- By how much each word is turned. -/
def turns : List Nat := [0, 1, 62, 28, 27, 36, 44, 6, 55, 20, 3, 10, 43, 25, 39, 41, 45, 15, 21, 8, 18, 2, 61, 56, 14]
/-- From where a word comes. -/
def src (k : Nat) : Nat := (3 * (k / 5) + k % 5) % 5 + 5 * (k % 5)
def rhopi (a : Nat → Wd64) (k : Nat) : Wd64 := rotl (a (src k)) (turns.getD (src k) 0)
def chi (b : Nat → Wd64) (k : Nat) : Wd64 := b k ^^^ (~~~ b (5 * (k / 5) + (k % 5 + 1) % 5) &&& b (5 * (k / 5) + (k % 5 + 2) % 5))
def iota (c : Wd64) (a : Nat → Wd64) (k : Nat) : Wd64 := if k = 0 then a 0 ^^^ c else a k
def rnd (c : Wd64) (a : Nat → Wd64) : Nat → Wd64 := iota c (chi (rhopi (theta a)))
def consts : List Wd64 := [0x1#64, 0x8082#64, 0x800000000000808a#64, 0x8000000080008000#64, 0x808b#64, 0x80000001#64, 0x8000000080008081#64, 0x8000000000008009#64,
  0x8a#64, 0x88#64, 0x80008009#64, 0x8000000a#64, 0x8000808b#64, 0x800000000000008b#64, 0x8000000000008089#64, 0x8000000000008003#64,
  0x8000000000008002#64, 0x8000000000000080#64, 0x800a#64, 0x800000008000000a#64, 0x8000000080008081#64, 0x8000000000008080#64, 0x80000001#64, 0x8000000080008008#64]
def rnds (a : Nat → Wd64) (n : Nat) : Nat → Wd64 := (consts.take n).foldl (fun a c => rnd c a) a
def perm (a : Nat → Wd64) : Nat → Wd64 := rnds a 24
/-! ## rotl -/
theorem rotl_bit (x : Wd64) (r n : Nat) (hn : n < 64) : (rotl x r).getLsbD n = x.getLsbD ((n + 64 - r % 64) % 64) := by
  unfold rotl
  rw [BitVec.getLsbD_rotateLeft]
  by_cases h : n < r % 64
  · rw [decide_eq_true h]
    show x.getLsbD (64 - r % 64 + n) = _
    congr 1
    omega
  · rw [decide_eq_false h, decide_eq_true hn]
    show (true && x.getLsbD (n - r % 64)) = _
    rw [Bool.true_and]
    congr 1
    omega
theorem rotl_xor (x y : Wd64) (r : Nat) : rotl (x ^^^ y) r = rotl x r ^^^ rotl y r := by
  apply BitVec.eq_of_getLsbD_eq
  intro i hi
  rw [BitVec.getLsbD_xor, rotl_bit _ _ _ hi, rotl_bit _ _ _ hi, rotl_bit _ _ _ hi, BitVec.getLsbD_xor]
theorem rotl_rotl (x : Wd64) (r s : Nat) : rotl (rotl x r) s = rotl x (r + s) := by
  apply BitVec.eq_of_getLsbD_eq
  intro i hi
  rw [rotl_bit _ _ _ hi, rotl_bit _ _ _ (Nat.mod_lt _ (by decide)), rotl_bit _ _ _ hi]
  congr 1
  omega
theorem rotl_64 (x : Wd64) : rotl x 64 = x := by
  apply BitVec.eq_of_getLsbD_eq
  intro i hi
  rw [rotl_bit _ _ _ hi]
  congr 1
  omega
theorem rotl_inj {x y : Wd64} (r : Nat) (h : rotl x r = rotl y r) : x = y := by
  apply BitVec.eq_of_getLsbD_eq
  intro i hi
  have h1 : (rotl x r).getLsbD ((i + r % 64) % 64) = (rotl y r).getLsbD ((i + r % 64) % 64) := by rw [h]
  rw [rotl_bit _ _ _ (Nat.mod_lt _ (by decide)), rotl_bit _ _ _ (Nat.mod_lt _ (by decide))] at h1
  have e : ((i + r % 64) % 64 + 64 - r % 64) % 64 = i := by omega
  rw [e] at h1
  exact h1
/-! ## theta -/
def FF (s t r : Nat) (p : Nat → Wd64) : Nat → Wd64 := fun x => p x ^^^ p (x + s) ^^^ rotl (p (x + t)) r
theorem cancel6 (a b c d e f : Wd64) : (a ^^^ b ^^^ c) ^^^ (b ^^^ d ^^^ e) ^^^ (c ^^^ e ^^^ f) = a ^^^ d ^^^ f := by
  apply BitVec.eq_of_getLsbD_eq
  intro i hi
  simp only [BitVec.getLsbD_xor]
  generalize a.getLsbD i = a; generalize b.getLsbD i = b; generalize c.getLsbD i = c; generalize d.getLsbD i = d; generalize e.getLsbD i = e; generalize f.getLsbD i = f
  revert a b c d e f; decide
theorem FF_sq (s t r : Nat) (p : Nat → Wd64) : FF s t r (FF s t r p) = FF (s + s) (t + t) (r + r) p := by
  funext x
  show (p x ^^^ p (x + s) ^^^ rotl (p (x + t)) r) ^^^ (p (x + s) ^^^ p (x + s + s) ^^^ rotl (p (x + s + t)) r) ^^^ rotl (p (x + t) ^^^ p (x + t + s) ^^^ rotl (p (x + t + t)) r) r = p x ^^^ p (x + (s + s)) ^^^ rotl (p (x + (t + t))) (r + r)
  rw [rotl_xor, rotl_xor, rotl_rotl, show x + t + s = x + s + t from by omega, show x + t + t = x + (t + t) from by omega, show x + s + s = x + (s + s) from by omega]
  exact cancel6 _ _ _ _ _ _
def Inj (s t r : Nat) : Prop := ∀ p q : Nat → Wd64, (∀ x, p (x + 5) = p x) → (∀ x, q (x + 5) = q x) → FF s t r p = FF s t r q → p = q
theorem Inj_down {s t r : Nat} (h : Inj (s + s) (t + t) (r + r)) : Inj s t r := by
  intro p q hp hq e
  apply h p q hp hq
  rw [← FF_sq, ← FF_sq, e]
theorem per {p : Nat → Wd64} (h : ∀ x, p (x + 5) = p x) : ∀ k x, p (x + 5 * k) = p x
  | 0, x => rfl
  | k + 1, x => by rw [show x + 5 * (k + 1) = (x + 5 * k) + 5 from by omega, h, per h k x]
theorem cube5 (a b c d e : Wd64) :
    -- U p = p x + p (x + 1) + p (x + 4), three times, at the first of five
    let u0 := a ^^^ b ^^^ e; let u1 := b ^^^ c ^^^ a; let u2 := c ^^^ d ^^^ b; let u3 := d ^^^ e ^^^ c; let u4 := e ^^^ a ^^^ d
    let v0 := u0 ^^^ u1 ^^^ u4; let v1 := u1 ^^^ u2 ^^^ u0; let v4 := u4 ^^^ u0 ^^^ u3
    v0 ^^^ v1 ^^^ v4 = a := by
  intro u0 u1 u2 u3 u4 v0 v1 v4
  apply BitVec.eq_of_getLsbD_eq
  intro i hi
  simp only [u0, u1, u2, u3, u4, v0, v1, v4, BitVec.getLsbD_xor]
  generalize a.getLsbD i = a; generalize b.getLsbD i = b; generalize c.getLsbD i = c; generalize d.getLsbD i = d; generalize e.getLsbD i = e
  revert a b c d e; decide
def UU (p : Nat → Wd64) : Nat → Wd64 := fun x => p x ^^^ p (x + 1) ^^^ p (x + 4)
theorem UU_cube {p : Nat → Wd64} (h : ∀ x, p (x + 5) = p x) (x : Nat) : UU (UU (UU p)) x = p x := by
  have h5 : p (x + 5) = p x := h x
  have h6 : p (x + 6) = p (x + 1) := h (x + 1)
  have h8 : p (x + 8) = p (x + 3) := h (x + 3)
  have h9 : p (x + 9) = p (x + 4) := h (x + 4)
  have h12 : p (x + 12) = p (x + 2) := (h (x + 7)).trans (h (x + 2))
  have e := cube5 (p x) (p (x + 1)) (p (x + 2)) (p (x + 3)) (p (x + 4))
  simp only [UU, Nat.add_assoc, Nat.reduceAdd]
  simp only [h5, h6, h8, h9, h12]
  exact e
theorem inj_top : Inj 256 64 64 := by
  intro p q hp hq e
  have hU : ∀ {z : Nat → Wd64}, (∀ x, z (x + 5) = z x) → FF 256 64 64 z = UU z := by
    intro z hz
    funext x
    show z x ^^^ z (x + 256) ^^^ rotl (z (x + 64)) 64 = z x ^^^ z (x + 1) ^^^ z (x + 4)
    rw [rotl_64, show x + 256 = (x + 1) + 5 * 51 from by omega, per hz, show x + 64 = (x + 4) + 5 * 12 from by omega, per hz]
  rw [hU hp, hU hq] at e
  funext x
  rw [← UU_cube hp x, ← UU_cube hq x, e]
theorem inj_T : Inj 4 1 1 := Inj_down (Inj_down (Inj_down (Inj_down (Inj_down (Inj_down inj_top)))))
theorem odd5 (a b c d e f : Wd64) : (a ^^^ f) ^^^ (b ^^^ f) ^^^ (c ^^^ f) ^^^ (d ^^^ f) ^^^ (e ^^^ f) = (a ^^^ b ^^^ c ^^^ d ^^^ e) ^^^ f := by
  apply BitVec.eq_of_getLsbD_eq
  intro i hi
  simp only [BitVec.getLsbD_xor]
  generalize a.getLsbD i = a; generalize b.getLsbD i = b; generalize c.getLsbD i = c; generalize d.getLsbD i = d; generalize e.getLsbD i = e; generalize f.getLsbD i = f
  revert a b c d e f; decide
theorem xor_cancel {a b c : Wd64} (h : a ^^^ c = b ^^^ c) : a = b := by
  have := congrArg (· ^^^ c) h
  simpa [BitVec.xor_assoc] using this
theorem par_theta (a : Nat → Wd64) (x : Nat) (hx : x < 5) : par (theta a) x = FF 4 1 1 (fun x => par a (x % 5)) x := by
  have e : ∀ k, (x + 5 * k) % 5 = x := fun k => by omega
  show theta a x ^^^ theta a (x + 5) ^^^ theta a (x + 10) ^^^ theta a (x + 15) ^^^ theta a (x + 20) = par a (x % 5) ^^^ par a ((x + 4) % 5) ^^^ rotl (par a ((x + 1) % 5)) 1
  unfold theta
  rw [show x % 5 = x from e 0, show (x + 5) % 5 = x from e 1, show (x + 10) % 5 = x from e 2, show (x + 15) % 5 = x from e 3, show (x + 20) % 5 = x from e 4, odd5]
  unfold dd
  rw [BitVec.xor_assoc (par a x)]
  rfl
theorem theta_inj {a b : Nat → Wd64} (h : ∀ j, j < 25 → theta a j = theta b j) : ∀ j, j < 25 → a j = b j := by
  have hp : ∀ x, x < 5 → par (theta a) x = par (theta b) x := fun x hx => by
    unfold par
    rw [h x (by omega), h (x + 5) (by omega), h (x + 10) (by omega), h (x + 15) (by omega), h (x + 20) (by omega)]
  have hF : FF 4 1 1 (fun x => par a (x % 5)) = FF 4 1 1 (fun x => par b (x % 5)) := by
    funext x
    have h5 := hp (x % 5) (Nat.mod_lt _ (by decide))
    rw [par_theta a _ (Nat.mod_lt _ (by decide)), par_theta b _ (Nat.mod_lt _ (by decide))] at h5
    simp only [FF, Nat.mod_add_mod, Nat.mod_mod] at h5 ⊢
    exact h5
  have hpp := inj_T _ _ (fun x => by simp) (fun x => by simp) hF
  intro j hj
  have hd : dd a (j % 5) = dd b (j % 5) := by
    unfold dd
    have h1 := congrFun hpp ((j % 5 + 4) % 5)
    have h2 := congrFun hpp ((j % 5 + 1) % 5)
    simp only [Nat.mod_mod] at h1 h2
    rw [h1, h2]
  have := h j hj
  unfold theta at this
  rw [hd] at this
  exact xor_cancel this
/-! ## the others -/
theorem src_lt (k : Nat) (h : k < 25) : src k < 25 := by unfold src; omega
theorem src_all : ∀ j, j < 25 → ∃ k, k < 25 ∧ src k = j := by decide
theorem rhopi_inj {a b : Nat → Wd64} (h : ∀ j, j < 25 → rhopi a j = rhopi b j) : ∀ j, j < 25 → a j = b j := by
  intro j hj
  obtain ⟨k, hk, rfl⟩ := src_all j hj
  exact rotl_inj _ (h k hk)
theorem chi5 (a0 a1 a2 a3 a4 b0 b1 b2 b3 b4 : Bool) (h0 : (a0 ^^ (!a1 && a2)) = (b0 ^^ (!b1 && b2))) (h1 : (a1 ^^ (!a2 && a3)) = (b1 ^^ (!b2 && b3))) (h2 : (a2 ^^ (!a3 && a4)) = (b2 ^^ (!b3 && b4)))
    (h3 : (a3 ^^ (!a4 && a0)) = (b3 ^^ (!b4 && b0))) (h4 : (a4 ^^ (!a0 && a1)) = (b4 ^^ (!b0 && b1))) : a0 = b0 ∧ a1 = b1 ∧ a2 = b2 ∧ a3 = b3 ∧ a4 = b4 := by
  revert a0 a1 a2 a3 a4 b0 b1 b2 b3 b4; decide
theorem chi_inj {a b : Nat → Wd64} (h : ∀ j, j < 25 → chi a j = chi b j) : ∀ j, j < 25 → a j = b j := by
  have row : ∀ r, r < 5 → a (5 * r) = b (5 * r) ∧ a (5 * r + 1) = b (5 * r + 1) ∧ a (5 * r + 2) = b (5 * r + 2) ∧ a (5 * r + 3) = b (5 * r + 3) ∧ a (5 * r + 4) = b (5 * r + 4) := by
    intro r hr
    have e : ∀ i, i < 5 → (5 * r + i) / 5 = r ∧ (5 * r + i) % 5 = i := fun i hi => by omega
    have g : ∀ i, i < 5 → a (5 * r + i) ^^^ (~~~ a (5 * r + (i + 1) % 5) &&& a (5 * r + (i + 2) % 5)) = b (5 * r + i) ^^^ (~~~ b (5 * r + (i + 1) % 5) &&& b (5 * r + (i + 2) % 5)) := by
      intro i hi
      have := h (5 * r + i) (by omega)
      unfold chi at this
      rw [(e i hi).1, (e i hi).2] at this
      exact this
    have g0 := g 0 (by decide); have g1 := g 1 (by decide); have g2 := g 2 (by decide); have g3 := g 3 (by decide); have g4 := g 4 (by decide)
    simp only [Nat.reduceAdd, Nat.reduceMod, Nat.add_zero] at g0 g1 g2 g3 g4
    generalize a (5 * r) = a0 at *; generalize a (5 * r + 1) = a1 at *; generalize a (5 * r + 2) = a2 at *; generalize a (5 * r + 3) = a3 at *; generalize a (5 * r + 4) = a4 at *
    generalize b (5 * r) = b0 at *; generalize b (5 * r + 1) = b1 at *; generalize b (5 * r + 2) = b2 at *; generalize b (5 * r + 3) = b3 at *; generalize b (5 * r + 4) = b4 at *
    have bit : ∀ i, i < 64 → a0.getLsbD i = b0.getLsbD i ∧ a1.getLsbD i = b1.getLsbD i ∧ a2.getLsbD i = b2.getLsbD i ∧ a3.getLsbD i = b3.getLsbD i ∧ a4.getLsbD i = b4.getLsbD i := by
      intro i hi
      have k0 := congrArg (fun z => BitVec.getLsbD z i) g0
      have k1 := congrArg (fun z => BitVec.getLsbD z i) g1
      have k2 := congrArg (fun z => BitVec.getLsbD z i) g2
      have k3 := congrArg (fun z => BitVec.getLsbD z i) g3
      have k4 := congrArg (fun z => BitVec.getLsbD z i) g4
      simp only [BitVec.getLsbD_xor, BitVec.getLsbD_and, BitVec.getLsbD_not, decide_eq_true hi, Bool.true_and] at k0 k1 k2 k3 k4
      exact chi5 _ _ _ _ _ _ _ _ _ _ k0 k1 k2 k3 k4
    exact ⟨BitVec.eq_of_getLsbD_eq fun i hi => (bit i hi).1, BitVec.eq_of_getLsbD_eq fun i hi => (bit i hi).2.1, BitVec.eq_of_getLsbD_eq fun i hi => (bit i hi).2.2.1, BitVec.eq_of_getLsbD_eq fun i hi => (bit i hi).2.2.2.1, BitVec.eq_of_getLsbD_eq fun i hi => (bit i hi).2.2.2.2⟩
  intro j hj
  have hr := row (j / 5) (by omega)
  have hc : j = 5 * (j / 5) ∨ j = 5 * (j / 5) + 1 ∨ j = 5 * (j / 5) + 2 ∨ j = 5 * (j / 5) + 3 ∨ j = 5 * (j / 5) + 4 := by omega
  rcases hc with e | e | e | e | e <;> rw [e]
  · exact hr.1
  · exact hr.2.1
  · exact hr.2.2.1
  · exact hr.2.2.2.1
  · exact hr.2.2.2.2
theorem rnd_inj {c : Wd64} {a b : Nat → Wd64} (h : ∀ j, j < 25 → rnd c a j = rnd c b j) : ∀ j, j < 25 → a j = b j := by
  apply theta_inj
  apply rhopi_inj
  apply chi_inj
  intro j hj
  have := h j hj
  unfold rnd iota at this
  by_cases h0 : j = 0
  · rw [if_pos h0, if_pos h0] at this
    subst h0
    exact xor_cancel this
  · rw [if_neg h0, if_neg h0] at this
    exact this
theorem fold_inj : ∀ (l : List Wd64) (a b : Nat → Wd64), (∀ j, j < 25 → l.foldl (fun a c => rnd c a) a j = l.foldl (fun a c => rnd c a) b j) → ∀ j, j < 25 → a j = b j
  | [], a, b, h => h
  | c :: l, a, b, h => rnd_inj (fold_inj l (rnd c a) (rnd c b) h)
theorem perm_inj {a b : Nat → Wd64} (h : ∀ j, j < 25 → perm a j = perm b j) : ∀ j, j < 25 → a j = b j := fold_inj _ a b h
/-- It looks at 25 words only. -/
theorem theta_cong {a b : Nat → Wd64} (h : ∀ j, j < 25 → a j = b j) : ∀ j, j < 25 → theta a j = theta b j := by
  have hp : ∀ x, x < 5 → par a x = par b x := fun x hx => by
    unfold par
    rw [h x (by omega), h (x + 5) (by omega), h (x + 10) (by omega), h (x + 15) (by omega), h (x + 20) (by omega)]
  intro j hj
  unfold theta dd
  rw [h j hj, hp _ (Nat.mod_lt _ (by decide)), hp _ (Nat.mod_lt _ (by decide))]
theorem rnd_cong {c : Wd64} {a b : Nat → Wd64} (h : ∀ j, j < 25 → a j = b j) : ∀ j, j < 25 → rnd c a j = rnd c b j := by
  have h1 := theta_cong h
  have h2 : ∀ j, j < 25 → rhopi (theta a) j = rhopi (theta b) j := fun j hj => by unfold rhopi; rw [h1 _ (src_lt j hj)]
  have h3 : ∀ j, j < 25 → chi (rhopi (theta a)) j = chi (rhopi (theta b)) j := fun j hj => by
    unfold chi; rw [h2 j hj, h2 _ (by omega), h2 _ (by omega)]
  intro j hj
  unfold rnd iota
  split
  · rw [h3 0 (by decide)]
  · exact h3 j hj
theorem fold_cong : ∀ (l : List Wd64) (a b : Nat → Wd64), (∀ j, j < 25 → a j = b j) → ∀ j, j < 25 → l.foldl (fun a c => rnd c a) a j = l.foldl (fun a c => rnd c a) b j
  | [], a, b, h => h
  | c :: l, a, b, h => fold_cong l (rnd c a) (rnd c b) (rnd_cong h)
theorem perm_cong {a b : Nat → Wd64} (h : ∀ j, j < 25 → a j = b j) : ∀ j, j < 25 → perm a j = perm b j := fold_cong _ a b h
end Kc
end Go.Proofs.YtjfpbponjhpdhaaDoor
