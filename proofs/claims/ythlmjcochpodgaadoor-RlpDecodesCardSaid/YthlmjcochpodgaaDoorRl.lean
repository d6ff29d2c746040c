/-
  RLP in plain words: items, forms, how they are read. Own work.
-/
namespace Go.Proofs.YthlmjcochpodgaaDoor
set_option linter.unusedVariables false
namespace Rl
abbrev Bt := BitVec 8
/-- Items, one behind the other: is it a list, its bytes, its parts, those behind it. -/
inductive Fo where
  | nil : Fo
  | cons : Bool → List Bt → Fo → Fo → Fo
def Fo.len : Fo → Nat
  | .nil => 0
  | .cons _ _ _ r => r.len + 1
/-- Has one of them a nesting above m? -/
def Fo.deep : Fo → Nat → Bool
  | .nil, _ => false
  | .cons _ _ k r, m => (match m with
    | 0 => true
    | m + 1 => k.deep m) || r.deep m
def Fo.right : Fo → Bool
  | .nil => true
  | .cons l b k r => (if l then b.isEmpty else k.len == 0) && k.right && r.right
/-- A number's bytes. -/
def digs : Nat → Nat → List Bt
  | 0, _ => []
  | f + 1, v => if v = 0 then [] else digs f (v / 256) ++ [BitVec.ofNat 8 v]
def big (v : Nat) : List Bt := digs 8 v
def head (s n : Nat) : List Bt := if n < 56 then [BitVec.ofNat 8 (s + n)] else BitVec.ofNat 8 (s + 55 + (big n).length) :: big n
def single (l : Bool) (b : List Bt) : Bool := match l, b with
  | false, [x] => x.toNat < 128
  | _, _ => false
def sh (l : Bool) : Nat := if l then 192 else 128
def wrap (l : Bool) (b c : List Bt) : List Bt := if single l b then b else head (sh l) (b ++ c).length ++ (b ++ c)
def Fo.form : Fo → List Bt
  | .nil => []
  | .cons l b k r => wrap l b k.form ++ r.form
def Fo.app : Fo → Fo → Fo
  | .nil, g => g
  | .cons l b k r, g => .cons l b k (r.app g)
/-- What is left of a bound behind their parts and bytes. -/
def Fo.rest : Fo → Int → Int
  | .nil, n => n
  | .cons _ b k r, n => if n < 0 then n else r.rest (k.rest (n - (1 + b.length)))
def num (v : Nat) : List Bt → Nat
  | [] => v
  | x :: r => num (v * 256 + x.toNat) r
theorem digs_len_le : ∀ f v, (digs f v).length ≤ f
  | 0, _ => by simp [digs]
  | f + 1, v => by
    unfold digs; split
    · simp
    · have := digs_len_le f (v / 256); simp; omega
theorem num_app (v : Nat) (a b : List Bt) : num v (a ++ b) = num (num v a) b := by
  induction a generalizing v with
  | nil => rfl
  | cons x r ih => exact ih _
theorem num_digs : ∀ f v, v < 256 ^ f → num 0 (digs f v) = v
  | 0, v, h => by have : v = 0 := by simpa using h
                  subst this; rfl
  | f + 1, v, h => by
    unfold digs
    split
    · rename_i h0; subst h0; rfl
    · have h1 : v / 256 < 256 ^ f := by rw [Nat.pow_succ] at h; omega
      rw [num_app, num_digs f _ h1]
      show v / 256 * 256 + (BitVec.ofNat 8 v).toNat = v
      rw [BitVec.toNat_ofNat]; omega
theorem digs_first : ∀ f v, ∀ x r, digs f v = x :: r → v < 256 ^ f → x ≠ 0#8
  | 0, v, x, r, h, _ => by simp [digs] at h
  | f + 1, v, x, r, h, hv => by
    unfold digs at h
    split at h
    · cases h
    · rename_i h0
      have h1 : v / 256 < 256 ^ f := by rw [Nat.pow_succ] at hv; omega
      cases hd : digs f (v / 256) with
      | nil =>
        rw [hd] at h
        have hz : v / 256 = 0 := by have := num_digs f (v / 256) h1; rw [hd] at this; exact this.symm
        injection h with h2 _
        subst h2
        intro e
        have := congrArg BitVec.toNat e
        simp at this; omega
      | cons y s =>
        rw [hd] at h
        injection h with h2 _
        subst h2
        exact digs_first f _ y s hd h1
end Rl
namespace Rl
def slc (b : List Bt) (i n : Nat) : List Bt := (b.drop i).take n
def at' (b : List Bt) (i : Nat) : Nat := (b.getD i 0#8).toNat
inductive Hd where
  | bad : Int → Hd
  | ok : Bool → Nat → Nat → Hd
/-- The head of a form whose length stands in k bytes behind the first one. -/
def hdL (b : List Bt) (i e k : Nat) (l : Bool) : Hd :=
  if e < i + 1 + k then .bad 11
  else if e < i + 1 + k + num 0 (slc b (i + 1) k) then .bad 11
  else if at' b (i + 1) = 0 ∨ num 0 (slc b (i + 1) k) < 56 then .bad 12
  else .ok l (1 + k) (num 0 (slc b (i + 1) k))
def hd (b : List Bt) (i e : Nat) : Hd :=
  if at' b i < 128 then .ok false 0 1
  else if at' b i ≤ 183 then (if e < i + 1 + (at' b i - 128) then .bad 11 else if at' b i - 128 = 1 ∧ at' b (i + 1) < 128 then .bad 12 else .ok false 1 (at' b i - 128))
  else if at' b i < 192 then hdL b i e (at' b i - 183) false
  else if at' b i ≤ 247 then (if e < i + 1 + (at' b i - 192) then .bad 11 else .ok true 1 (at' b i - 192))
  else hdL b i e (at' b i - 247) true
inductive R1 where
  | bad : Nat → Int → R1
  | ok : Bool → List Bt → Fo → Nat → R1
inductive Rn where
  | bad : Nat → Int → Rn
  | ok : Fo → Rn
mutual
def one (b : List Bt) : Nat → Nat → Nat → Nat → R1
  | 0, i, _, _ => .bad i 0
  | f + 1, i, e, d => if 16 ≤ d then .bad i 13 else match hd b i e with
    | .bad w => .bad i w
    | .ok true s n => (match items b f (i + s) (i + s + n) (d + 1) with
      | .bad p w => .bad p w
      | .ok k => .ok true [] k (i + s + n))
    | .ok false s n => .ok false (slc b (i + s) n) .nil (i + s + n)
def items (b : List Bt) : Nat → Nat → Nat → Nat → Rn
  | 0, i, _, _ => .bad i 0
  | f + 1, i, e, d => if e ≤ i then .ok .nil else match one b f i e d with
    | .bad p w => .bad p w
    | .ok l x k j => (match items b f j e d with
      | .bad p w => .bad p w
      | .ok r => .ok (.cons l x k r))
end
theorem slc_len {b : List Bt} {i n : Nat} (h : i + n ≤ b.length) : (slc b i n).length = n := by simp [slc]; omega
theorem slc_add (b : List Bt) (i n m : Nat) : slc b i (n + m) = slc b i n ++ slc b (i + n) m := by
  simp [slc, List.take_add, List.drop_drop]
theorem slc_one {b : List Bt} {i : Nat} (h : i < b.length) : slc b i 1 = [b.getD i 0#8] := by
  unfold slc
  have h2 := List.drop_eq_getElem_cons h
  rw [h2]
  show [b[i]] = _
  rw [List.getD_eq_getElem?_getD, List.getElem?_eq_getElem h]; rfl
theorem num_bound : ∀ (x : List Bt) (v : Nat), num v x < (v + 1) * 256 ^ x.length
  | [], v => by simp [num]
  | y :: r, v => by
    have h := num_bound r (v * 256 + y.toNat)
    have hy := y.isLt
    have h2 : (v * 256 + y.toNat + 1) * 256 ^ r.length ≤ ((v + 1) * 256) * 256 ^ r.length := Nat.mul_le_mul_right _ (by omega)
    show num (v * 256 + y.toNat) r < (v + 1) * 256 ^ (r.length + 1)
    rw [Nat.pow_succ, Nat.mul_comm (256 ^ r.length) 256, ← Nat.mul_assoc]
    omega
/-- Bytes without a nought ahead are the bytes of their number. -/
theorem digs_num : ∀ (f : Nat) (x : List Bt), x.length ≤ f → (∀ y r, x = y :: r → y ≠ 0#8) → digs f (num 0 x) = x := by
  intro f
  induction f with
  | zero => intro x h _; have : x = [] := List.eq_nil_of_length_eq_zero (by omega); subst this; rfl
  | succ f ih =>
    intro x h h0
    rcases List.eq_nil_or_concat x with rfl | ⟨r, y, rfl⟩
    · rfl
    · rw [List.concat_eq_append] at h h0 ⊢
      revert h h0
      intro h h0
      have hy := y.isLt
      have e : num 0 (r ++ [y]) = num 0 r * 256 + y.toNat := by rw [num_app]; rfl
      have hr : ∀ z s, r = z :: s → z ≠ 0#8 := fun z s hz => h0 z (s ++ [y]) (by rw [hz]; rfl)
      have hn : num 0 (r ++ [y]) ≠ 0 := by
        rw [e]
        cases r with
        | nil =>
          have := h0 y [] rfl
          intro h9
          apply this
          apply BitVec.eq_of_toNat_eq
          simp [num] at h9 ⊢; exact h9
        | cons z s =>
          have hz := h0 z (s ++ [y]) rfl
          have : 0 < num 0 (z :: s) := by
            have hz1 : 0 < z.toNat := by
              rcases Nat.eq_zero_or_pos z.toNat with h9 | h9
              · exact absurd (BitVec.eq_of_toNat_eq (by simpa using h9)) hz
              · exact h9
            have mono : ∀ (t : List Bt) (v : Nat), v ≤ num v t := by
              intro t
              induction t with
              | nil => intro v; exact Nat.le_refl _
              | cons q t ih => intro v; exact Nat.le_trans (by omega) (ih (v * 256 + q.toNat))
            exact Nat.lt_of_lt_of_le (by omega) (mono s (0 * 256 + z.toNat))
          omega
      unfold digs
      rw [if_neg hn, e]
      have e1 : (num 0 r * 256 + y.toNat) / 256 = num 0 r := by omega
      have e2 : BitVec.ofNat 8 (num 0 r * 256 + y.toNat) = y := by
        apply BitVec.eq_of_toNat_eq
        rw [BitVec.toNat_ofNat]; omega
      rw [e1, e2, ih r (by simp at h; omega) hr]
end Rl
namespace Rl
theorem sh_f : sh false = 128 := rfl
theorem sh_t : sh true = 192 := rfl
theorem big_len_pos {n : Nat} (h : 56 ≤ n) : 0 < (big n).length := by
  unfold big digs
  rw [if_neg (by omega)]; simp
theorem big_num {n : Nat} (h : n < 2 ^ 64) : num 0 (big n) = n := num_digs 8 n (by simpa using h)
theorem big_le (n : Nat) : (big n).length ≤ 8 := digs_len_le 8 n
def wrapB (l : Bool) (c : List Bt) : List Bt := if single l c then c else head (sh l) c.length ++ c
theorem wrap_true (c : List Bt) : wrap true [] c = wrapB true c := by
  unfold wrap wrapB
  have h1 : single true [] = false := rfl
  have h2 : single true c = false := by unfold single; rfl
  rw [h1, h2]; rfl
theorem wrap_false (b : List Bt) : wrap false b [] = wrapB false b := by
  unfold wrap wrapB
  rw [List.append_nil]
theorem single_iff {l : Bool} {c : List Bt} : single l c = true ↔ l = false ∧ ∃ x, c = [x] ∧ x.toNat < 128 := by
  unfold single
  split
  · rename_i x
    simp
  · rename_i h
    constructor
    · intro h2; cases h2
    · rintro ⟨rfl, x, rfl, hx⟩; exact (h x rfl rfl).elim
theorem at_slc {b : List Bt} {i : Nat} (h : i < b.length) : slc b i 1 = [b.getD i 0#8] := slc_one h
theorem getD_of {b : List Bt} {i k : Nat} (h : at' b i = k) : b.getD i 0#8 = BitVec.ofNat 8 k := by
  apply BitVec.eq_of_toNat_eq
  have hl := (b.getD i 0#8).isLt
  unfold at' at h
  rw [BitVec.toNat_ofNat, h]; omega
theorem long_ok {b : List Bt} {i e k : Nat} {l : Bool} {s n : Nat} {l' : Bool} (he : e ≤ b.length) (hk : 0 < k) (hk8 : k ≤ 8) (hf : at' b i = sh l + 55 + k) (h : hdL b i e k l = .ok l' s n) :
    l' = l ∧ s = 1 + k ∧ 56 ≤ n ∧ i + s + n ≤ e ∧ head (sh l) n = slc b i s := by
  unfold hdL at h
  split at h
  · cases h
  · split at h
    · cases h
    · split at h
      · cases h
      · rename_i h1 h2 h3
        injection h with h4 h5 h6
        subst h4 h5 h6
        have hlen : (slc b (i + 1) k).length = k := slc_len (by omega)
        have hfirst : ∀ y r, slc b (i + 1) k = y :: r → y ≠ 0#8 := by
          intro y r hy hz
          apply h3
          left
          have h7 : slc b (i + 1) k = slc b (i + 1) 1 ++ slc b (i + 1 + 1) (k - 1) := by
            rw [← slc_add]; congr 1; omega
          rw [slc_one (by omega)] at h7
          rw [h7] at hy
          injection hy with hy _
          unfold at'
          rw [hy, hz]; rfl
        have hd8 := digs_num 8 _ (by omega) hfirst
        refine ⟨rfl, rfl, by omega, by omega, ?_⟩
        unfold head
        rw [if_neg (by omega)]
        have hbig : big (num 0 (slc b (i + 1) k)) = slc b (i + 1) k := hd8
        rw [hbig, hlen, slc_add, slc_one (by omega), getD_of hf]; rfl
theorem hd_ok {b : List Bt} {i e : Nat} {l : Bool} {s n : Nat} (hi : i < e) (he : e ≤ b.length) (h : hd b i e = .ok l s n) :
    i + s + n ≤ e ∧ 0 < s + n ∧ wrapB l (slc b (i + s) n) = slc b i (s + n) := by
  have hb := (b.getD i 0#8).isLt
  have hlt : at' b i < 256 := by simpa [at'] using hb
  unfold hd at h
  split at h
  · rename_i h1
    injection h with h4 h5 h6
    subst h4 h5 h6
    refine ⟨by omega, by omega, ?_⟩
    unfold wrapB
    rw [if_pos]
    · rw [Nat.zero_add]; rfl
    · rw [single_iff]; exact ⟨rfl, _, slc_one (by omega), h1⟩
  · split at h
    · split at h
      · cases h
      · split at h
        · cases h
        · rename_i h1 h2 h3 h4
          injection h with h5 h6 h7
          subst h5 h6 h7
          refine ⟨by omega, by omega, ?_⟩
          have hlen : (slc b (i + 1) (at' b i - 128)).length = at' b i - 128 := slc_len (by omega)
          unfold wrapB
          rw [if_neg]
          · rw [hlen, slc_add, slc_one (by omega)]
            unfold head
            rw [if_pos (by omega)]
            rw [getD_of (k := sh false + (at' b i - 128)) (by have := sh_f; omega)]
          · rw [single_iff]
            rintro ⟨_, x, hx, hx2⟩
            rw [hx] at hlen
            apply h4
            have hl1 : at' b i - 128 = 1 := by simpa using hlen.symm
            refine ⟨hl1, ?_⟩
            rw [hl1, slc_one (by omega)] at hx
            injection hx with hx _
            unfold at'; rw [hx]; exact hx2
    · split at h
      · rename_i h1 h2 h3
        obtain ⟨hl, hs, h56, hle, hh⟩ := long_ok he (by omega) (by omega) (show at' b i = sh false + 55 + (at' b i - 183) by have := sh_f; omega) h
        generalize at' b i - 183 = k at *
        subst hl hs
        have hlen : (slc b (i + (1 + k)) n).length = n := slc_len (by omega)
        refine ⟨by omega, by omega, ?_⟩
        unfold wrapB
        rw [if_neg, hlen, hh, ← slc_add]
        rw [single_iff]
        rintro ⟨_, x, hx, _⟩
        rw [hx] at hlen; simp at hlen; omega
      · split at h
        · split at h
          · cases h
          · rename_i h1 h2 h3 h4 h5
            injection h with h6 h7 h8
            subst h6 h7 h8
            refine ⟨by omega, by omega, ?_⟩
            have hlen : (slc b (i + 1) (at' b i - 192)).length = at' b i - 192 := slc_len (by omega)
            unfold wrapB
            rw [if_neg]
            · rw [hlen, slc_add, slc_one (by omega)]
              unfold head
              rw [if_pos (by omega)]
              rw [getD_of (k := sh true + (at' b i - 192)) (by have := sh_t; omega)]
            · rw [single_iff]; rintro ⟨h, _⟩; cases h
        · rename_i h1 h2 h3 h4
          obtain ⟨hl, hs, h56, hle, hh⟩ := long_ok he (by omega) (by omega) (show at' b i = sh true + 55 + (at' b i - 247) by have := sh_t; omega) h
          generalize at' b i - 247 = k at *
          subst hl hs
          have hlen : (slc b (i + (1 + k)) n).length = n := slc_len (by omega)
          refine ⟨by omega, by omega, ?_⟩
          unfold wrapB
          rw [if_neg, hlen, hh, ← slc_add]
          rw [single_iff]
          rintro ⟨h, _⟩; cases h
end Rl
namespace Rl
theorem slc_full (b : List Bt) (n : Nat) (h : b.length = n) : slc b 0 n = b := by simp [slc, ← h]
/-- What is read has the form that was read. -/
theorem read_form (b : List Bt) : ∀ f : Nat,
    (∀ i e d l x k j, i < e → e ≤ b.length → one b f i e d = .ok l x k j → i < j ∧ j ≤ e ∧ wrap l x k.form = slc b i (j - i) ∧ (if l then x.isEmpty else k.len == 0) = true ∧ k.right = true ∧ d < 16 ∧ k.deep (16 - (d + 1)) = false) ∧
    (∀ i e d g, i ≤ e → e ≤ b.length → items b f i e d = .ok g → g.form = slc b i (e - i) ∧ g.right = true ∧ g.deep (16 - d) = false) := by
  intro f
  induction f with
  | zero => exact ⟨fun i e d l x k j _ _ h => by simp [one] at h, fun i e d g _ _ h => by simp [items] at h⟩
  | succ f ih =>
    constructor
    · intro i e d l x k j hi he h
      unfold one at h
      split at h
      · cases h
      · rename_i hd16
        cases hh : hd b i e with
        | bad w => rw [hh] at h; cases h
        | ok l0 s n =>
          rw [hh] at h
          obtain ⟨h1, h2, h3⟩ := hd_ok hi he hh
          cases l0 with
          | true =>
            simp only at h
            cases hk : items b f (i + s) (i + s + n) (d + 1) with
            | bad p w => rw [hk] at h; cases h
            | ok k0 =>
              rw [hk] at h
              injection h with e1 e2 e3 e4
              subst e1 e2 e3 e4
              obtain ⟨g1, g2, g3⟩ := ih.2 (i + s) (i + s + n) (d + 1) k0 (by omega) (by omega) hk
              refine ⟨by omega, h1, ?_, rfl, g2, by omega, g3⟩
              rw [wrap_true, g1, show i + s + n - (i + s) = n from by omega, h3, show i + s + n - i = s + n from by omega]
          | false =>
            simp only at h
            injection h with e1 e2 e3 e4
            subst e1 e2 e3 e4
            refine ⟨by omega, h1, ?_, rfl, rfl, by omega, rfl⟩
            show wrap false _ [] = _
            rw [wrap_false, h3, show i + s + n - i = s + n from by omega]
    · intro i e d g hi he h
      unfold items at h
      split at h
      · injection h with h; subst h
        exact ⟨by rw [show e - i = 0 from by omega]; rfl, rfl, rfl⟩
      · rename_i hie
        cases hh : one b f i e d with
        | bad p w => rw [hh] at h; cases h
        | ok l x k j =>
          rw [hh] at h
          simp only at h
          obtain ⟨h1, h2, h3, h4, h5, h6, h7⟩ := ih.1 i e d l x k j (by omega) he hh
          cases hr : items b f j e d with
          | bad p w => rw [hr] at h; cases h
          | ok r =>
            rw [hr] at h
            injection h with h; subst h
            obtain ⟨g1, g2, g3⟩ := ih.2 j e d r h2 he hr
            refine ⟨?_, ?_, ?_⟩
            · show wrap l x k.form ++ r.form = _
              rw [h3, g1, show e - i = (j - i) + (e - j) from by omega, slc_add, show i + (j - i) = j from by omega]
            · show ((if l then x.isEmpty else k.len == 0) && k.right && r.right) = true
              rw [h4, h5, g2]; rfl
            · show ((match 16 - d with | 0 => true | m + 1 => k.deep m) || r.deep (16 - d)) = false
              rw [g3, show 16 - d = (16 - (d + 1)) + 1 from by omega]
              show (k.deep (16 - (d + 1)) || false) = false
              rw [h7]; rfl
/-! ## A form is read as what it is of -/
def Fo.size : Fo → Nat
  | .nil => 1
  | .cons _ _ k r => k.size + r.size + 2
theorem head_len (s n : Nat) : (head s n).length = if n < 56 then 1 else 1 + (big n).length := by
  unfold head; split
  · rfl
  · simp; omega
theorem slc_sub {b x y : List Bt} {i n : Nat} (h : slc b i n = x ++ y) (hn : x.length + y.length = n) : slc b i x.length = x ∧ slc b (i + x.length) y.length = y := by
  rw [← hn, slc_add] at h
  have hl : (slc b i x.length ++ slc b (i + x.length) y.length).length = x.length + y.length := by rw [h]; simp
  have h1 : (slc b i x.length).length ≤ x.length := by simp [slc]; omega
  have h2 : (slc b (i + x.length) y.length).length ≤ y.length := by simp [slc]; omega
  simp only [List.length_append] at hl
  have h3 : (slc b i x.length).length = x.length := by omega
  exact List.append_inj h h3
theorem at_of {b : List Bt} {i n : Nat} {x : Bt} {y : List Bt} (h : slc b i (n + 1) = x :: y) : at' b i = x.toNat ∧ slc b (i + 1) n = y ∧ i < b.length := by
  rcases Nat.lt_or_ge i b.length with hi | hi
  · rw [Nat.add_comm n 1, slc_add, slc_one hi] at h
    injection h with h1 h2
    exact ⟨by unfold at'; rw [h1], h2, hi⟩
  · have : slc b i (n + 1) = [] := by simp [slc]; omega
    rw [this] at h; cases h
theorem hd_wrap {b : List Bt} {i e : Nat} {l : Bool} {c : List Bt} (hb : slc b i (wrapB l c).length = wrapB l c) (he : i + (wrapB l c).length ≤ e) (hn : c.length < 2 ^ 64) :
    ∃ s, hd b i e = .ok l s c.length ∧ s + c.length = (wrapB l c).length ∧ slc b (i + s) c.length = c := by
  unfold wrapB at hb he ⊢
  by_cases h1 : single l c = true
  · rw [if_pos h1] at hb he ⊢
    obtain ⟨rfl, x, rfl, hx⟩ := single_iff.1 h1
    obtain ⟨h2, _, _⟩ := at_of (n := 0) hb
    refine ⟨0, ?_, by simp, by simpa using hb⟩
    unfold hd
    rw [if_pos (by omega)]; rfl
  · rw [if_neg h1] at hb he ⊢
    rw [List.length_append] at hb he ⊢
    obtain ⟨ha, hc⟩ := slc_sub hb rfl
    have hl := head_len (sh l) c.length
    by_cases h56 : c.length < 56
    · rw [if_pos h56] at hl
      unfold head at ha
      rw [if_pos h56] at ha
      obtain ⟨h2, _, _⟩ := at_of (n := 0) ha
      rw [hl] at hc he
      refine ⟨1, ?_, by rw [hl], hc⟩
      unfold hd
      cases l with
      | false =>
        have h3 : at' b i = 128 + c.length := by rw [h2, BitVec.toNat_ofNat, sh_f]; omega
        rw [if_neg (by omega), if_pos (by omega), if_neg (by omega), if_neg, show at' b i - 128 = c.length from by omega]
        rintro ⟨h4, h5⟩
        apply h1
        rw [single_iff]
        have hc1 : c.length = 1 := by omega
        obtain ⟨x, rfl⟩ : ∃ x, c = [x] := List.length_eq_one_iff.1 hc1
        obtain ⟨h6, _, _⟩ := at_of (n := 0) hc
        exact ⟨rfl, x, rfl, by omega⟩
      | true =>
        have h3 : at' b i = 192 + c.length := by rw [h2, BitVec.toNat_ofNat, sh_t]; omega
        rw [if_neg (by omega), if_neg (by omega), if_neg (by omega), if_pos (by omega), if_neg (by omega), show at' b i - 192 = c.length from by omega]
    · rw [if_neg h56] at hl
      have hk0 := big_len_pos (n := c.length) (by omega)
      have hk8 := big_le c.length
      have hnum := big_num hn
      unfold head at ha
      rw [if_neg h56] at ha
      obtain ⟨h2, h2b, _⟩ := at_of (n := (big c.length).length) ha
      rw [hl] at hc he
      have hfirst : at' b (i + 1) ≠ 0 := by
        obtain ⟨y, r, hy⟩ : ∃ y r, big c.length = y :: r := by
          cases hbg : big c.length with
          | nil => rw [hbg] at hk0; simp at hk0
          | cons y r => exact ⟨y, r, rfl⟩
        have h9 := digs_first 8 c.length y r hy (by simpa using hn)
        have h2c := h2b
        rw [hy] at h2c
        obtain ⟨h10, _, _⟩ := at_of (n := r.length) h2c
        rw [h10]
        intro h11
        exact h9 (BitVec.eq_of_toNat_eq (by simpa using h11))
      refine ⟨1 + (big c.length).length, ?_, by rw [hl], hc⟩
      have hL : ∀ l', hdL b i e (big c.length).length l' = .ok l' (1 + (big c.length).length) c.length := by
        intro l'
        unfold hdL
        rw [h2b, hnum, if_neg (by omega), if_neg (by omega), if_neg (fun h => h.elim hfirst h56)]
      unfold hd
      cases l with
      | false =>
        have h3 : at' b i = 183 + (big c.length).length := by rw [h2, BitVec.toNat_ofNat, sh_f]; omega
        rw [if_neg (by omega), if_neg (by omega), if_pos (by omega), show at' b i - 183 = (big c.length).length from by omega]
        exact hL false
      | true =>
        have h3 : at' b i = 247 + (big c.length).length := by rw [h2, BitVec.toNat_ofNat, sh_t]; omega
        rw [if_neg (by omega), if_neg (by omega), if_neg (by omega), if_neg (by omega), show at' b i - 247 = (big c.length).length from by omega]
        exact hL true
end Rl
namespace Rl
theorem wrapB_pos (l : Bool) (c : List Bt) : 0 < (wrapB l c).length := by
  unfold wrapB
  split
  · rename_i h; obtain ⟨_, x, rfl, _⟩ := single_iff.1 h; simp
  · rw [List.length_append, head_len]; split <;> omega
theorem len_zero {k : Fo} (h : (k.len == 0) = true) : k = .nil := by
  cases k with
  | nil => rfl
  | cons l b k r => simp [Fo.len] at h
theorem empty_nil {x : List Bt} (h : x.isEmpty = true) : x = [] := List.isEmpty_iff.1 h
theorem form_read (b : List Bt) : ∀ (g : Fo) (i e d f : Nat), g.right = true → g.deep (16 - d) = false → slc b i g.form.length = g.form → e = i + g.form.length → g.form.length < 2 ^ 64 → g.size ≤ f → items b f i e d = .ok g := by
  intro g
  induction g with
  | nil =>
    intro i e d f _ _ _ he _ hf
    obtain ⟨f, rfl⟩ : ∃ f', f = f' + 1 := ⟨f - 1, by simp [Fo.size] at hf; omega⟩
    unfold items
    rw [if_pos (by simp [Fo.form] at he; omega)]
  | cons l x k r ihk ihr =>
    intro i e d f hr hd' hb he hlen hf
    simp only [Fo.size] at hf
    obtain ⟨f, rfl⟩ : ∃ f', f = f' + 1 + 1 := ⟨f - 2, by omega⟩
    have hr' : ((if l then x.isEmpty else k.len == 0) && k.right && r.right) = true := hr
    simp only [Bool.and_eq_true] at hr'
    obtain ⟨⟨hr1, hr2⟩, hr3⟩ := hr'
    have hdd : ((match 16 - d with | 0 => true | m + 1 => k.deep m) || r.deep (16 - d)) = false := hd'
    rw [Bool.or_eq_false_iff] at hdd
    obtain ⟨hd1, hd2⟩ := hdd
    have hd16 : d < 16 := by
      rcases Nat.lt_or_ge d 16 with h | h
      · exact h
      · rw [show 16 - d = 0 from by omega] at hd1; cases hd1
    have hd3 : k.deep (16 - (d + 1)) = false := by
      rw [show 16 - d = (16 - (d + 1)) + 1 from by omega] at hd1
      exact hd1
    obtain ⟨c, hwc, hc⟩ : ∃ c, wrap l x k.form = wrapB l c ∧ c = (if l then k.form else x) := by
      refine ⟨_, ?_, rfl⟩
      cases l with
      | true => rw [empty_nil hr1, wrap_true]; rfl
      | false => rw [len_zero hr1]; exact wrap_false x
    have hform : (Fo.cons l x k r).form = wrapB l c ++ r.form := by show wrap l x k.form ++ r.form = _; rw [hwc]
    rw [hform] at hb he hlen
    rw [List.length_append] at hb he hlen
    obtain ⟨hb1, hb2⟩ := slc_sub hb rfl
    have hpos := wrapB_pos l c
    have hcl : c.length ≤ (wrapB l c).length := by
      unfold wrapB; split
      · exact Nat.le_refl _
      · simp
    obtain ⟨s, h1, h2, h3⟩ := hd_wrap hb1 (e := e) (by omega) (by omega)
    have hone : one b (f + 1) i e d = .ok l x k (i + (wrapB l c).length) := by
      unfold one
      rw [if_neg (by omega), h1]
      cases l with
      | true =>
        have hck : c = k.form := hc
        have hx := empty_nil hr1
        subst hx
        have hcl0 : k.form.length ≤ (wrapB true c).length := by rw [← hck]; exact hcl
        rw [hck] at h2 h3 hcl
        have hk := ihk (i + s) (i + s + k.form.length) (d + 1) f hr2 hd3 h3 rfl (by omega) (by omega)
        simp only [hck, hk]
        congr 1; omega
      | false =>
        have hcx : c = x := hc
        have hk := len_zero hr1
        subst hk
        simp only
        rw [h3, hcx]
        congr 1
        rw [← hcx]; omega
    have hrest := ihr (i + (wrapB l c).length) e d (f + 1) hr3 hd2 hb2 (by omega) (by omega) (by omega)
    unfold items
    rw [if_neg (by omega), hone]
    simp only [hrest]
end Rl
end Go.Proofs.YthlmjcochpodgaaDoor
