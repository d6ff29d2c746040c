/- RLP: merged. Own work. -/
import Derived.Test.YthlmjcochpodgaaDoorRow
import Derived.Test.YthlmjcochpodgaaDoorProg
import Derived.Deep.Slices
import Derived.Deep.Fields
import Derived.ChangeSame
import Derived.ChangeSlices
import Derived.OpenShut
import Derived.SizedLaws
import Derived.WalkKit
import Derived.Lib.Hide
import Derived.Test.YthlmjcochpodgaaDoorApp
import Derived.Laws.AppendOwnNone
import Derived.Outline
import Derived.Deep.Cut
import Derived.IntWalk
namespace Go.Proofs.YthlmjcochpodgaaDoor
set_option linter.unusedVariables false
namespace Rl
abbrev Bt := BitVec 8
/-- Items, one behind the other: is it a list, its bytes, its parts, those behind it. -/
inductive Fo where
  | nil : Fo
  | cons : Bool → List Bt → Fo → Fo → Fo
def Fo.len : Fo → Nat
  | .nil => 0
  | .cons _ _ _ r => r.len + 1
/-- Has one of them a nesting above m? -/
def Fo.deep : Fo → Nat → Bool
  | .nil, _ => false
  | .cons _ _ k r, m => (match m with
    | 0 => true
    | m + 1 => k.deep m) || r.deep m
def Fo.right : Fo → Bool
  | .nil => true
  | .cons l b k r => (if l then b.isEmpty else k.len == 0) && k.right && r.right
/-- A number's bytes. -/
def digs : Nat → Nat → List Bt
  | 0, _ => []
  | f + 1, v => if v = 0 then [] else digs f (v / 256) ++ [BitVec.ofNat 8 v]
def big (v : Nat) : List Bt := digs 8 v
def head (s n : Nat) : List Bt := if n < 56 then [BitVec.ofNat 8 (s + n)] else BitVec.ofNat 8 (s + 55 + (big n).length) :: big n
def single (l : Bool) (b : List Bt) : Bool := match l, b with
  | false, [x] => x.toNat < 128
  | _, _ => false
def sh (l : Bool) : Nat := if l then 192 else 128
def wrap (l : Bool) (b c : List Bt) : List Bt := if single l b then b else head (sh l) (b ++ c).length ++ (b ++ c)
def Fo.form : Fo → List Bt
  | .nil => []
  | .cons l b k r => wrap l b k.form ++ r.form
def Fo.app : Fo → Fo → Fo
  | .nil, g => g
  | .cons l b k r, g => .cons l b k (r.app g)
/-- What is left of a bound behind their parts and bytes. -/
def Fo.rest : Fo → Int → Int
  | .nil, n => n
  | .cons _ b k r, n => if n < 0 then n else r.rest (k.rest (n - (1 + b.length)))
def num (v : Nat) : List Bt → Nat
  | [] => v
  | x :: r => num (v * 256 + x.toNat) r
theorem digs_len_le : ∀ f v, (digs f v).length ≤ f
  | 0, _ => by simp [digs]
  | f + 1, v => by
    unfold digs; split
    · simp
    · have := digs_len_le f (v / 256); simp; omega
theorem num_app (v : Nat) (a b : List Bt) : num v (a ++ b) = num (num v a) b := by
  induction a generalizing v with
  | nil => rfl
  | cons x r ih => exact ih _
theorem num_digs : ∀ f v, v < 256 ^ f → num 0 (digs f v) = v
  | 0, v, h => by have : v = 0 := by simpa using h
                  subst this; rfl
  | f + 1, v, h => by
    unfold digs
    split
    · rename_i h0; subst h0; rfl
    · have h1 : v / 256 < 256 ^ f := by rw [Nat.pow_succ] at h; omega
      rw [num_app, num_digs f _ h1]
      show v / 256 * 256 + (BitVec.ofNat 8 v).toNat = v
      rw [BitVec.toNat_ofNat]; omega
theorem digs_first : ∀ f v, ∀ x r, digs f v = x :: r → v < 256 ^ f → x ≠ 0#8
  | 0, v, x, r, h, _ => by simp [digs] at h
  | f + 1, v, x, r, h, hv => by
    unfold digs at h
    split at h
    · cases h
    · rename_i h0
      have h1 : v / 256 < 256 ^ f := by rw [Nat.pow_succ] at hv; omega
      cases hd : digs f (v / 256) with
      | nil =>
        rw [hd] at h
        have hz : v / 256 = 0 := by have := num_digs f (v / 256) h1; rw [hd] at this; exact this.symm
        injection h with h2 _
        subst h2
        intro e
        have := congrArg BitVec.toNat e
        simp at this; omega
      | cons y s =>
        rw [hd] at h
        injection h with h2 _
        subst h2
        exact digs_first f _ y s hd h1
end Rl
namespace Rl
def slc (b : List Bt) (i n : Nat) : List Bt := (b.drop i).take n
def at' (b : List Bt) (i : Nat) : Nat := (b.getD i 0#8).toNat
inductive Hd where
  | bad : Int → Hd
  | ok : Bool → Nat → Nat → Hd
/-- The head of a form whose length stands in k bytes behind the first one. -/
def hdL (b : List Bt) (i e k : Nat) (l : Bool) : Hd :=
  if e < i + 1 + k then .bad 11
  else if e < i + 1 + k + num 0 (slc b (i + 1) k) then .bad 11
  else if at' b (i + 1) = 0 ∨ num 0 (slc b (i + 1) k) < 56 then .bad 12
  else .ok l (1 + k) (num 0 (slc b (i + 1) k))
def hd (b : List Bt) (i e : Nat) : Hd :=
  if at' b i < 128 then .ok false 0 1
  else if at' b i ≤ 183 then (if e < i + 1 + (at' b i - 128) then .bad 11 else if at' b i - 128 = 1 ∧ at' b (i + 1) < 128 then .bad 12 else .ok false 1 (at' b i - 128))
  else if at' b i < 192 then hdL b i e (at' b i - 183) false
  else if at' b i ≤ 247 then (if e < i + 1 + (at' b i - 192) then .bad 11 else .ok true 1 (at' b i - 192))
  else hdL b i e (at' b i - 247) true
inductive R1 where
  | bad : Nat → Int → R1
  | ok : Bool → List Bt → Fo → Nat → R1
inductive Rn where
  | bad : Nat → Int → Rn
  | ok : Fo → Rn
mutual
def one (b : List Bt) : Nat → Nat → Nat → Nat → R1
  | 0, i, _, _ => .bad i 0
  | f + 1, i, e, d => if 16 ≤ d then .bad i 13 else match hd b i e with
    | .bad w => .bad i w
    | .ok true s n => (match items b f (i + s) (i + s + n) (d + 1) with
      | .bad p w => .bad p w
      | .ok k => .ok true [] k (i + s + n))
    | .ok false s n => .ok false (slc b (i + s) n) .nil (i + s + n)
def items (b : List Bt) : Nat → Nat → Nat → Nat → Rn
  | 0, i, _, _ => .bad i 0
  | f + 1, i, e, d => if e ≤ i then .ok .nil else match one b f i e d with
    | .bad p w => .bad p w
    | .ok l x k j => (match items b f j e d with
      | .bad p w => .bad p w
      | .ok r => .ok (.cons l x k r))
end
theorem slc_len {b : List Bt} {i n : Nat} (h : i + n ≤ b.length) : (slc b i n).length = n := by simp [slc]; omega
theorem slc_add (b : List Bt) (i n m : Nat) : slc b i (n + m) = slc b i n ++ slc b (i + n) m := by
  simp [slc, List.take_add, List.drop_drop]
theorem slc_one {b : List Bt} {i : Nat} (h : i < b.length) : slc b i 1 = [b.getD i 0#8] := by
  unfold slc
  have h2 := List.drop_eq_getElem_cons h
  rw [h2]
  show [b[i]] = _
  rw [List.getD_eq_getElem?_getD, List.getElem?_eq_getElem h]; rfl
theorem num_bound : ∀ (x : List Bt) (v : Nat), num v x < (v + 1) * 256 ^ x.length
  | [], v => by simp [num]
  | y :: r, v => by
    have h := num_bound r (v * 256 + y.toNat)
    have hy := y.isLt
    have h2 : (v * 256 + y.toNat + 1) * 256 ^ r.length ≤ ((v + 1) * 256) * 256 ^ r.length := Nat.mul_le_mul_right _ (by omega)
    show num (v * 256 + y.toNat) r < (v + 1) * 256 ^ (r.length + 1)
    rw [Nat.pow_succ, Nat.mul_comm (256 ^ r.length) 256, ← Nat.mul_assoc]
    omega
/-- Bytes without a nought ahead are the bytes of their number. -/
theorem digs_num : ∀ (f : Nat) (x : List Bt), x.length ≤ f → (∀ y r, x = y :: r → y ≠ 0#8) → digs f (num 0 x) = x := by
  intro f
  induction f with
  | zero => intro x h _; have : x = [] := List.eq_nil_of_length_eq_zero (by omega); subst this; rfl
  | succ f ih =>
    intro x h h0
    rcases List.eq_nil_or_concat x with rfl | ⟨r, y, rfl⟩
    · rfl
    · rw [List.concat_eq_append] at h h0 ⊢
      revert h h0
      intro h h0
      have hy := y.isLt
      have e : num 0 (r ++ [y]) = num 0 r * 256 + y.toNat := by rw [num_app]; rfl
      have hr : ∀ z s, r = z :: s → z ≠ 0#8 := fun z s hz => h0 z (s ++ [y]) (by rw [hz]; rfl)
      have hn : num 0 (r ++ [y]) ≠ 0 := by
        rw [e]
        cases r with
        | nil =>
          have := h0 y [] rfl
          intro h9
          apply this
          apply BitVec.eq_of_toNat_eq
          simp [num] at h9 ⊢; exact h9
        | cons z s =>
          have hz := h0 z (s ++ [y]) rfl
          have : 0 < num 0 (z :: s) := by
            have hz1 : 0 < z.toNat := by
              rcases Nat.eq_zero_or_pos z.toNat with h9 | h9
              · exact absurd (BitVec.eq_of_toNat_eq (by simpa using h9)) hz
              · exact h9
            have mono : ∀ (t : List Bt) (v : Nat), v ≤ num v t := by
              intro t
              induction t with
              | nil => intro v; exact Nat.le_refl _
              | cons q t ih => intro v; exact Nat.le_trans (by omega) (ih (v * 256 + q.toNat))
            exact Nat.lt_of_lt_of_le (by omega) (mono s (0 * 256 + z.toNat))
          omega
      unfold digs
      rw [if_neg hn, e]
      have e1 : (num 0 r * 256 + y.toNat) / 256 = num 0 r := by omega
      have e2 : BitVec.ofNat 8 (num 0 r * 256 + y.toNat) = y := by
        apply BitVec.eq_of_toNat_eq
        rw [BitVec.toNat_ofNat]; omega
      rw [e1, e2, ih r (by simp at h; omega) hr]
end Rl
namespace Rl
theorem sh_f : sh false = 128 := rfl
theorem sh_t : sh true = 192 := rfl
theorem big_len_pos {n : Nat} (h : 56 ≤ n) : 0 < (big n).length := by
  unfold big digs
  rw [if_neg (by omega)]; simp
theorem big_num {n : Nat} (h : n < 2 ^ 64) : num 0 (big n) = n := num_digs 8 n (by simpa using h)
theorem big_le (n : Nat) : (big n).length ≤ 8 := digs_len_le 8 n
def wrapB (l : Bool) (c : List Bt) : List Bt := if single l c then c else head (sh l) c.length ++ c
theorem wrap_true (c : List Bt) : wrap true [] c = wrapB true c := by
  unfold wrap wrapB
  have h1 : single true [] = false := rfl
  have h2 : single true c = false := by unfold single; rfl
  rw [h1, h2]; rfl
theorem wrap_false (b : List Bt) : wrap false b [] = wrapB false b := by
  unfold wrap wrapB
  rw [List.append_nil]
theorem single_iff {l : Bool} {c : List Bt} : single l c = true ↔ l = false ∧ ∃ x, c = [x] ∧ x.toNat < 128 := by
  unfold single
  split
  · rename_i x
    simp
  · rename_i h
    constructor
    · intro h2; cases h2
    · rintro ⟨rfl, x, rfl, hx⟩; exact (h x rfl rfl).elim
theorem at_slc {b : List Bt} {i : Nat} (h : i < b.length) : slc b i 1 = [b.getD i 0#8] := slc_one h
theorem getD_of {b : List Bt} {i k : Nat} (h : at' b i = k) : b.getD i 0#8 = BitVec.ofNat 8 k := by
  apply BitVec.eq_of_toNat_eq
  have hl := (b.getD i 0#8).isLt
  unfold at' at h
  rw [BitVec.toNat_ofNat, h]; omega
theorem long_ok {b : List Bt} {i e k : Nat} {l : Bool} {s n : Nat} {l' : Bool} (he : e ≤ b.length) (hk : 0 < k) (hk8 : k ≤ 8) (hf : at' b i = sh l + 55 + k) (h : hdL b i e k l = .ok l' s n) :
    l' = l ∧ s = 1 + k ∧ 56 ≤ n ∧ i + s + n ≤ e ∧ head (sh l) n = slc b i s := by
  unfold hdL at h
  split at h
  · cases h
  · split at h
    · cases h
    · split at h
      · cases h
      · rename_i h1 h2 h3
        injection h with h4 h5 h6
        subst h4 h5 h6
        have hlen : (slc b (i + 1) k).length = k := slc_len (by omega)
        have hfirst : ∀ y r, slc b (i + 1) k = y :: r → y ≠ 0#8 := by
          intro y r hy hz
          apply h3
          left
          have h7 : slc b (i + 1) k = slc b (i + 1) 1 ++ slc b (i + 1 + 1) (k - 1) := by
            rw [← slc_add]; congr 1; omega
          rw [slc_one (by omega)] at h7
          rw [h7] at hy
          injection hy with hy _
          unfold at'
          rw [hy, hz]; rfl
        have hd8 := digs_num 8 _ (by omega) hfirst
        refine ⟨rfl, rfl, by omega, by omega, ?_⟩
        unfold head
        rw [if_neg (by omega)]
        have hbig : big (num 0 (slc b (i + 1) k)) = slc b (i + 1) k := hd8
        rw [hbig, hlen, slc_add, slc_one (by omega), getD_of hf]; rfl
theorem hd_ok {b : List Bt} {i e : Nat} {l : Bool} {s n : Nat} (hi : i < e) (he : e ≤ b.length) (h : hd b i e = .ok l s n) :
    i + s + n ≤ e ∧ 0 < s + n ∧ wrapB l (slc b (i + s) n) = slc b i (s + n) := by
  have hb := (b.getD i 0#8).isLt
  have hlt : at' b i < 256 := by simpa [at'] using hb
  unfold hd at h
  split at h
  · rename_i h1
    injection h with h4 h5 h6
    subst h4 h5 h6
    refine ⟨by omega, by omega, ?_⟩
    unfold wrapB
    rw [if_pos]
    · rw [Nat.zero_add]; rfl
    · rw [single_iff]; exact ⟨rfl, _, slc_one (by omega), h1⟩
  · split at h
    · split at h
      · cases h
      · split at h
        · cases h
        · rename_i h1 h2 h3 h4
          injection h with h5 h6 h7
          subst h5 h6 h7
          refine ⟨by omega, by omega, ?_⟩
          have hlen : (slc b (i + 1) (at' b i - 128)).length = at' b i - 128 := slc_len (by omega)
          unfold wrapB
          rw [if_neg]
          · rw [hlen, slc_add, slc_one (by omega)]
            unfold head
            rw [if_pos (by omega)]
            rw [getD_of (k := sh false + (at' b i - 128)) (by have := sh_f; omega)]
          · rw [single_iff]
            rintro ⟨_, x, hx, hx2⟩
            rw [hx] at hlen
            apply h4
            have hl1 : at' b i - 128 = 1 := by simpa using hlen.symm
            refine ⟨hl1, ?_⟩
            rw [hl1, slc_one (by omega)] at hx
            injection hx with hx _
            unfold at'; rw [hx]; exact hx2
    · split at h
      · rename_i h1 h2 h3
        obtain ⟨hl, hs, h56, hle, hh⟩ := long_ok he (by omega) (by omega) (show at' b i = sh false + 55 + (at' b i - 183) by have := sh_f; omega) h
        generalize at' b i - 183 = k at *
        subst hl hs
        have hlen : (slc b (i + (1 + k)) n).length = n := slc_len (by omega)
        refine ⟨by omega, by omega, ?_⟩
        unfold wrapB
        rw [if_neg, hlen, hh, ← slc_add]
        rw [single_iff]
        rintro ⟨_, x, hx, _⟩
        rw [hx] at hlen; simp at hlen; omega
      · split at h
        · split at h
          · cases h
          · rename_i h1 h2 h3 h4 h5
            injection h with h6 h7 h8
            subst h6 h7 h8
            refine ⟨by omega, by omega, ?_⟩
            have hlen : (slc b (i + 1) (at' b i - 192)).length = at' b i - 192 := slc_len (by omega)
            unfold wrapB
            rw [if_neg]
            · rw [hlen, slc_add, slc_one (by omega)]
              unfold head
              rw [if_pos (by omega)]
              rw [getD_of (k := sh true + (at' b i - 192)) (by have := sh_t; omega)]
            · rw [single_iff]; rintro ⟨h, _⟩; cases h
        · rename_i h1 h2 h3 h4
          obtain ⟨hl, hs, h56, hle, hh⟩ := long_ok he (by omega) (by omega) (show at' b i = sh true + 55 + (at' b i - 247) by have := sh_t; omega) h
          generalize at' b i - 247 = k at *
          subst hl hs
          have hlen : (slc b (i + (1 + k)) n).length = n := slc_len (by omega)
          refine ⟨by omega, by omega, ?_⟩
          unfold wrapB
          rw [if_neg, hlen, hh, ← slc_add]
          rw [single_iff]
          rintro ⟨h, _⟩; cases h
end Rl
namespace Rl
theorem slc_full (b : List Bt) (n : Nat) (h : b.length = n) : slc b 0 n = b := by simp [slc, ← h]
/-- What is read has the form that was read. -/
theorem read_form (b : List Bt) : ∀ f : Nat,
    (∀ i e d l x k j, i < e → e ≤ b.length → one b f i e d = .ok l x k j → i < j ∧ j ≤ e ∧ wrap l x k.form = slc b i (j - i) ∧ (if l then x.isEmpty else k.len == 0) = true ∧ k.right = true ∧ d < 16 ∧ k.deep (16 - (d + 1)) = false) ∧
    (∀ i e d g, i ≤ e → e ≤ b.length → items b f i e d = .ok g → g.form = slc b i (e - i) ∧ g.right = true ∧ g.deep (16 - d) = false) := by
  intro f
  induction f with
  | zero => exact ⟨fun i e d l x k j _ _ h => by simp [one] at h, fun i e d g _ _ h => by simp [items] at h⟩
  | succ f ih =>
    constructor
    · intro i e d l x k j hi he h
      unfold one at h
      split at h
      · cases h
      · rename_i hd16
        cases hh : hd b i e with
        | bad w => rw [hh] at h; cases h
        | ok l0 s n =>
          rw [hh] at h
          obtain ⟨h1, h2, h3⟩ := hd_ok hi he hh
          cases l0 with
          | true =>
            simp only at h
            cases hk : items b f (i + s) (i + s + n) (d + 1) with
            | bad p w => rw [hk] at h; cases h
            | ok k0 =>
              rw [hk] at h
              injection h with e1 e2 e3 e4
              subst e1 e2 e3 e4
              obtain ⟨g1, g2, g3⟩ := ih.2 (i + s) (i + s + n) (d + 1) k0 (by omega) (by omega) hk
              refine ⟨by omega, h1, ?_, rfl, g2, by omega, g3⟩
              rw [wrap_true, g1, show i + s + n - (i + s) = n from by omega, h3, show i + s + n - i = s + n from by omega]
          | false =>
            simp only at h
            injection h with e1 e2 e3 e4
            subst e1 e2 e3 e4
            refine ⟨by omega, h1, ?_, rfl, rfl, by omega, rfl⟩
            show wrap false _ [] = _
            rw [wrap_false, h3, show i + s + n - i = s + n from by omega]
    · intro i e d g hi he h
      unfold items at h
      split at h
      · injection h with h; subst h
        exact ⟨by rw [show e - i = 0 from by omega]; rfl, rfl, rfl⟩
      · rename_i hie
        cases hh : one b f i e d with
        | bad p w => rw [hh] at h; cases h
        | ok l x k j =>
          rw [hh] at h
          simp only at h
          obtain ⟨h1, h2, h3, h4, h5, h6, h7⟩ := ih.1 i e d l x k j (by omega) he hh
          cases hr : items b f j e d with
          | bad p w => rw [hr] at h; cases h
          | ok r =>
            rw [hr] at h
            injection h with h; subst h
            obtain ⟨g1, g2, g3⟩ := ih.2 j e d r h2 he hr
            refine ⟨?_, ?_, ?_⟩
            · show wrap l x k.form ++ r.form = _
              rw [h3, g1, show e - i = (j - i) + (e - j) from by omega, slc_add, show i + (j - i) = j from by omega]
            · show ((if l then x.isEmpty else k.len == 0) && k.right && r.right) = true
              rw [h4, h5, g2]; rfl
            · show ((match 16 - d with | 0 => true | m + 1 => k.deep m) || r.deep (16 - d)) = false
              rw [g3, show 16 - d = (16 - (d + 1)) + 1 from by omega]
              show (k.deep (16 - (d + 1)) || false) = false
              rw [h7]; rfl
/-! ## A form is read as what it is of -/
def Fo.size : Fo → Nat
  | .nil => 1
  | .cons _ _ k r => k.size + r.size + 2
theorem head_len (s n : Nat) : (head s n).length = if n < 56 then 1 else 1 + (big n).length := by
  unfold head; split
  · rfl
  · simp; omega
theorem slc_sub {b x y : List Bt} {i n : Nat} (h : slc b i n = x ++ y) (hn : x.length + y.length = n) : slc b i x.length = x ∧ slc b (i + x.length) y.length = y := by
  rw [← hn, slc_add] at h
  have hl : (slc b i x.length ++ slc b (i + x.length) y.length).length = x.length + y.length := by rw [h]; simp
  have h1 : (slc b i x.length).length ≤ x.length := by simp [slc]; omega
  have h2 : (slc b (i + x.length) y.length).length ≤ y.length := by simp [slc]; omega
  simp only [List.length_append] at hl
  have h3 : (slc b i x.length).length = x.length := by omega
  exact List.append_inj h h3
theorem at_of {b : List Bt} {i n : Nat} {x : Bt} {y : List Bt} (h : slc b i (n + 1) = x :: y) : at' b i = x.toNat ∧ slc b (i + 1) n = y ∧ i < b.length := by
  rcases Nat.lt_or_ge i b.length with hi | hi
  · rw [Nat.add_comm n 1, slc_add, slc_one hi] at h
    injection h with h1 h2
    exact ⟨by unfold at'; rw [h1], h2, hi⟩
  · have : slc b i (n + 1) = [] := by simp [slc]; omega
    rw [this] at h; cases h
theorem hd_wrap {b : List Bt} {i e : Nat} {l : Bool} {c : List Bt} (hb : slc b i (wrapB l c).length = wrapB l c) (he : i + (wrapB l c).length ≤ e) (hn : c.length < 2 ^ 64) :
    ∃ s, hd b i e = .ok l s c.length ∧ s + c.length = (wrapB l c).length ∧ slc b (i + s) c.length = c := by
  unfold wrapB at hb he ⊢
  by_cases h1 : single l c = true
  · rw [if_pos h1] at hb he ⊢
    obtain ⟨rfl, x, rfl, hx⟩ := single_iff.1 h1
    obtain ⟨h2, _, _⟩ := at_of (n := 0) hb
    refine ⟨0, ?_, by simp, by simpa using hb⟩
    unfold hd
    rw [if_pos (by omega)]; rfl
  · rw [if_neg h1] at hb he ⊢
    rw [List.length_append] at hb he ⊢
    obtain ⟨ha, hc⟩ := slc_sub hb rfl
    have hl := head_len (sh l) c.length
    by_cases h56 : c.length < 56
    · rw [if_pos h56] at hl
      unfold head at ha
      rw [if_pos h56] at ha
      obtain ⟨h2, _, _⟩ := at_of (n := 0) ha
      rw [hl] at hc he
      refine ⟨1, ?_, by rw [hl], hc⟩
      unfold hd
      cases l with
      | false =>
        have h3 : at' b i = 128 + c.length := by rw [h2, BitVec.toNat_ofNat, sh_f]; omega
        rw [if_neg (by omega), if_pos (by omega), if_neg (by omega), if_neg, show at' b i - 128 = c.length from by omega]
        rintro ⟨h4, h5⟩
        apply h1
        rw [single_iff]
        have hc1 : c.length = 1 := by omega
        obtain ⟨x, rfl⟩ : ∃ x, c = [x] := List.length_eq_one_iff.1 hc1
        obtain ⟨h6, _, _⟩ := at_of (n := 0) hc
        exact ⟨rfl, x, rfl, by omega⟩
      | true =>
        have h3 : at' b i = 192 + c.length := by rw [h2, BitVec.toNat_ofNat, sh_t]; omega
        rw [if_neg (by omega), if_neg (by omega), if_neg (by omega), if_pos (by omega), if_neg (by omega), show at' b i - 192 = c.length from by omega]
    · rw [if_neg h56] at hl
      have hk0 := big_len_pos (n := c.length) (by omega)
      have hk8 := big_le c.length
      have hnum := big_num hn
      unfold head at ha
      rw [if_neg h56] at ha
      obtain ⟨h2, h2b, _⟩ := at_of (n := (big c.length).length) ha
      rw [hl] at hc he
      have hfirst : at' b (i + 1) ≠ 0 := by
        obtain ⟨y, r, hy⟩ : ∃ y r, big c.length = y :: r := by
          cases hbg : big c.length with
          | nil => rw [hbg] at hk0; simp at hk0
          | cons y r => exact ⟨y, r, rfl⟩
        have h9 := digs_first 8 c.length y r hy (by simpa using hn)
        have h2c := h2b
        rw [hy] at h2c
        obtain ⟨h10, _, _⟩ := at_of (n := r.length) h2c
        rw [h10]
        intro h11
        exact h9 (BitVec.eq_of_toNat_eq (by simpa using h11))
      refine ⟨1 + (big c.length).length, ?_, by rw [hl], hc⟩
      have hL : ∀ l', hdL b i e (big c.length).length l' = .ok l' (1 + (big c.length).length) c.length := by
        intro l'
        unfold hdL
        rw [h2b, hnum, if_neg (by omega), if_neg (by omega), if_neg (fun h => h.elim hfirst h56)]
      unfold hd
      cases l with
      | false =>
        have h3 : at' b i = 183 + (big c.length).length := by rw [h2, BitVec.toNat_ofNat, sh_f]; omega
        rw [if_neg (by omega), if_neg (by omega), if_pos (by omega), show at' b i - 183 = (big c.length).length from by omega]
        exact hL false
      | true =>
        have h3 : at' b i = 247 + (big c.length).length := by rw [h2, BitVec.toNat_ofNat, sh_t]; omega
        rw [if_neg (by omega), if_neg (by omega), if_neg (by omega), if_neg (by omega), show at' b i - 247 = (big c.length).length from by omega]
        exact hL true
end Rl
namespace Rl
theorem wrapB_pos (l : Bool) (c : List Bt) : 0 < (wrapB l c).length := by
  unfold wrapB
  split
  · rename_i h; obtain ⟨_, x, rfl, _⟩ := single_iff.1 h; simp
  · rw [List.length_append, head_len]; split <;> omega
theorem len_zero {k : Fo} (h : (k.len == 0) = true) : k = .nil := by
  cases k with
  | nil => rfl
  | cons l b k r => simp [Fo.len] at h
theorem empty_nil {x : List Bt} (h : x.isEmpty = true) : x = [] := List.isEmpty_iff.1 h
theorem form_read (b : List Bt) : ∀ (g : Fo) (i e d f : Nat), g.right = true → g.deep (16 - d) = false → slc b i g.form.length = g.form → e = i + g.form.length → g.form.length < 2 ^ 64 → g.size ≤ f → items b f i e d = .ok g := by
  intro g
  induction g with
  | nil =>
    intro i e d f _ _ _ he _ hf
    obtain ⟨f, rfl⟩ : ∃ f', f = f' + 1 := ⟨f - 1, by simp [Fo.size] at hf; omega⟩
    unfold items
    rw [if_pos (by simp [Fo.form] at he; omega)]
  | cons l x k r ihk ihr =>
    intro i e d f hr hd' hb he hlen hf
    simp only [Fo.size] at hf
    obtain ⟨f, rfl⟩ : ∃ f', f = f' + 1 + 1 := ⟨f - 2, by omega⟩
    have hr' : ((if l then x.isEmpty else k.len == 0) && k.right && r.right) = true := hr
    simp only [Bool.and_eq_true] at hr'
    obtain ⟨⟨hr1, hr2⟩, hr3⟩ := hr'
    have hdd : ((match 16 - d with | 0 => true | m + 1 => k.deep m) || r.deep (16 - d)) = false := hd'
    rw [Bool.or_eq_false_iff] at hdd
    obtain ⟨hd1, hd2⟩ := hdd
    have hd16 : d < 16 := by
      rcases Nat.lt_or_ge d 16 with h | h
      · exact h
      · rw [show 16 - d = 0 from by omega] at hd1; cases hd1
    have hd3 : k.deep (16 - (d + 1)) = false := by
      rw [show 16 - d = (16 - (d + 1)) + 1 from by omega] at hd1
      exact hd1
    obtain ⟨c, hwc, hc⟩ : ∃ c, wrap l x k.form = wrapB l c ∧ c = (if l then k.form else x) := by
      refine ⟨_, ?_, rfl⟩
      cases l with
      | true => rw [empty_nil hr1, wrap_true]; rfl
      | false => rw [len_zero hr1]; exact wrap_false x
    have hform : (Fo.cons l x k r).form = wrapB l c ++ r.form := by show wrap l x k.form ++ r.form = _; rw [hwc]
    rw [hform] at hb he hlen
    rw [List.length_append] at hb he hlen
    obtain ⟨hb1, hb2⟩ := slc_sub hb rfl
    have hpos := wrapB_pos l c
    have hcl : c.length ≤ (wrapB l c).length := by
      unfold wrapB; split
      · exact Nat.le_refl _
      · simp
    obtain ⟨s, h1, h2, h3⟩ := hd_wrap hb1 (e := e) (by omega) (by omega)
    have hone : one b (f + 1) i e d = .ok l x k (i + (wrapB l c).length) := by
      unfold one
      rw [if_neg (by omega), h1]
      cases l with
      | true =>
        have hck : c = k.form := hc
        have hx := empty_nil hr1
        subst hx
        have hcl0 : k.form.length ≤ (wrapB true c).length := by rw [← hck]; exact hcl
        rw [hck] at h2 h3 hcl
        have hk := ihk (i + s) (i + s + k.form.length) (d + 1) f hr2 hd3 h3 rfl (by omega) (by omega)
        simp only [hck, hk]
        congr 1; omega
      | false =>
        have hcx : c = x := hc
        have hk := len_zero hr1
        subst hk
        simp only
        rw [h3, hcx]
        congr 1
        rw [← hcx]; omega
    have hrest := ihr (i + (wrapB l c).length) e d (f + 1) hr3 hd2 hb2 (by omega) (by omega) (by omega)
    unfold items
    rw [if_neg (by omega), hone]
    simp only [hrest]
end Rl
end Go.Proofs.YthlmjcochpodgaaDoor
namespace Go.Proofs.YthlmjcochpodgaaDoor
open Go.ChangeShapes Go.WideShapes Go.Deep Go.RowKit
set_option linter.unusedVariables false
namespace Rl
def bvb (x : Bt) : Value := .int .u8 (x.toNat : Int)
/-- What was there is there still. -/
def Keep (w w' : World) : Prop := ∀ p v, w.cell? p = some v → w'.cell? p = some v
theorem Keep.refl (w : World) : Keep w w := fun _ _ h => h
theorem Keep.trans {w w1 w2 : World} (h : Keep w w1) (k : Keep w1 w2) : Keep w w2 := fun p v e => k p v (h p v e)
theorem keep_below {w w' : World} (h : Below w.heap.size w w') : Keep w w' := fun p v e => by
  obtain ⟨b, o, s⟩ := p
  have hs : s = none := by simpa using World.cell?_spot e
  subst hs
  exact keep1 h e
/-- A slice of bytes. -/
def IsB (w : World) (a : Option Addr) (n c : Nat) (bs : List Bt) : Prop :=
  n = bs.length ∧ n ≤ c ∧ c ≤ maxLen ∧ (a = none → c = 0) ∧ (n = 0 ∨ ∃ b o, a = some ⟨b, o, none⟩ ∧ ∀ i x, bs[i]? = some x → w.cell? ⟨b, o + i, none⟩ = some (bvb x))
theorem IsB.keep {w w' : World} {a : Option Addr} {n c : Nat} {bs : List Bt} (h : IsB w a n c bs) (hk : Keep w w') : IsB w' a n c bs := by
  obtain ⟨h1, h2, h3, h4, h5⟩ := h
  refine ⟨h1, h2, h3, h4, h5.imp id ?_⟩
  rintro ⟨b, o, h6, h7⟩
  exact ⟨b, o, h6, fun i x hx => hk _ _ (h7 i x hx)⟩
/-- Items, one behind the other. -/
def IsFo (w : World) : Fo → Nat → Nat → Prop
  | .nil, _, _ => True
  | .cons l bs k r, b, o => w.cell? ⟨b, o, none⟩ = some (.bool l) ∧ (∃ a n c, w.cell? ⟨b, o + 1, none⟩ = some (.slice a n c) ∧ IsB w a n c bs) ∧
      (∃ a n c, w.cell? ⟨b, o + 2, none⟩ = some (.slice a n c) ∧ n = k.len ∧ n ≤ c ∧ c ≤ maxLen ∧ (a = none → c = 0) ∧ (n = 0 ∨ ∃ b' o', a = some ⟨b', o', none⟩ ∧ IsFo w k b' o')) ∧ IsFo w r b (o + 3)
/-- A slice of items. -/
def IsK (w : World) (a : Option Addr) (n c : Nat) (k : Fo) : Prop :=
  n = k.len ∧ n ≤ c ∧ c ≤ maxLen ∧ (a = none → c = 0) ∧ (n = 0 ∨ ∃ b o, a = some ⟨b, o, none⟩ ∧ IsFo w k b o)
theorem IsFo.keep {w w' : World} (hk : Keep w w') : ∀ (k : Fo) (b o : Nat), IsFo w k b o → IsFo w' k b o
  | .nil, _, _, _ => trivial
  | .cons l bs k r, b, o, ⟨h1, ⟨a, n, c, h2, h3⟩, ⟨a', n', c', h4, h5, h6, h7, h8, h9⟩, h10⟩ =>
    ⟨hk _ _ h1, ⟨a, n, c, hk _ _ h2, h3.keep hk⟩, ⟨a', n', c', hk _ _ h4, h5, h6, h7, h8, h9.imp id fun ⟨b', o', e, h⟩ => ⟨b', o', e, IsFo.keep hk k b' o' h⟩⟩, IsFo.keep hk r b (o + 3) h10⟩
theorem IsK.keep {w w' : World} {a : Option Addr} {n c : Nat} {k : Fo} (h : IsK w a n c k) (hk : Keep w w') : IsK w' a n c k := by
  obtain ⟨h1, h2, h3, h4, h5⟩ := h
  exact ⟨h1, h2, h3, h4, h5.imp id fun ⟨b, o, e, h⟩ => ⟨b, o, e, IsFo.keep hk k b o h⟩⟩
/-- An item by value. -/
def IsIt (w : World) (v : Value) (l : Bool) (bs : List Bt) (k : Fo) : Prop :=
  ∃ a n c a' n' c', v = .agg #[.bool l, .slice a n c, .slice a' n' c'] ∧ IsB w a n c bs ∧ IsK w a' n' c' k
theorem IsIt.keep {w w' : World} {v : Value} {l : Bool} {bs : List Bt} {k : Fo} (h : IsIt w v l bs k) (hk : Keep w w') : IsIt w' v l bs k := by
  obtain ⟨a, n, c, a', n', c', e, h1, h2⟩ := h
  exact ⟨a, n, c, a', n', c', e, h1.keep hk, h2.keep hk⟩
section
variable {H : Type} {enc : TypeId × Value → H} {P : Program} {w : World} {base : Nat} {spare : Nat → Bool} {held : Bool}
theorem bytes_of {t e : TypeId} {fuel : Nat} {cs : List Value} {x : DataW H × List MemPlace} (ht : P.underlying t = some (.slice e)) (he : P.underlying e = some (.int .u8)) (hc : P.cellsOf e = 1)
    (h : DataW.trod enc P w base spare held fuel t cs = some x) : ∃ a n c bs, cs = [.slice a n c] ∧ IsB w a n c bs := by
  rcases open_ints ht he hc h with ⟨h0, _⟩ | ⟨a, len, cap, zs, hcs, _, hl, hm, hz, _, hcell, hwf⟩
  · exact ⟨none, 0, 0, [], h0, rfl, Nat.le_refl _, by decide, fun _ => rfl, .inl rfl⟩
  · have hlz : len ≤ zs.length := by rw [hz]; split <;> omega
    refine ⟨some a, len, cap, (zs.take len).map fun z => BitVec.ofNat 8 z.toNat, hcs, by simp; omega, hl, hm, fun e => (by cases e), ?_⟩
    rcases Nat.eq_zero_or_pos len with h0 | h0
    · exact .inl h0
    · right
      obtain ⟨b, o, s⟩ := a
      have hs : s = none := by
        have h1 := hcell 0 (by omega)
        simpa [Addr.add] using World.cell?_spot h1
      subst hs
      refine ⟨b, o, rfl, fun i x hx => ?_⟩
      have hil : i < len := by
        have := (List.getElem?_eq_some_iff.1 hx).1
        simp at this; omega
      have h1 := hcell i (by omega)
      rw [add_at] at h1
      rw [h1]
      rw [List.getElem?_map, List.getElem?_take, if_pos hil, List.getElem?_eq_getElem (by omega)] at hx
      injection hx with hx
      subst hx
      have hw := hwf (zs.getD i 0) (by rw [List.getD_eq_getElem?_getD, List.getElem?_eq_getElem (by omega)]; exact List.getElem_mem _)
      rw [List.getD_eq_getElem?_getD, List.getElem?_eq_getElem (by omega)] at hw ⊢
      simp only [Option.getD_some] at hw ⊢
      have hw2 := Bool.and_eq_true_iff.1 hw
      have hb1 : (0 : Int) ≤ zs[i] := of_decide_eq_true hw2.1
      have hb2 : zs[i] ≤ (255 : Int) := of_decide_eq_true hw2.2
      unfold bvb
      rw [BitVec.toNat_ofNat]
      congr 2
      omega
end
section
variable {H : Type} {enc : TypeId × Value → H} {w : World} {base : Nat} {spare : Nat → Bool} {held : Bool}
set_option maxRecDepth 100000 in
theorem item_of : ∀ (fuel : Nat) (cs : List Value) (x : DataW H × List MemPlace), DataW.trod enc Tryd.prog w base spare held fuel 25 cs = some x →
    ∃ l bs k a n c a' n' c', cs = [.bool l, .slice a n c, .slice a' n' c'] ∧ IsB w a n c bs ∧ IsK w a' n' c' k := by
  intro fuel
  induction fuel using Nat.strongRecOn with
  | _ fuel ih =>
    intro cs x h
    obtain ⟨ys, m, hm, hx, hcl, hyl, hf⟩ := DataW.trod_struct Tryd.underlying25 h
    have hC : Tryd.prog.cellsOf 25 = 3 := by kernel_rfl
    rw [hC] at hcl
    obtain ⟨c0, c1, c2, rfl⟩ : ∃ a b c, cs = [a, b, c] := by
      match cs, hcl with
      | [a, b, c], _ => exact ⟨a, b, c, rfl⟩
    have ys3 : ys.length = 3 := hyl
    obtain ⟨y0, y1, y2, rfl⟩ : ∃ a b c, ys = [a, b, c] := by
      match ys, ys3 with
      | [a, b, c], _ => exact ⟨a, b, c, rfl⟩
    have h0 := hf 0 _ rfl
    have h1 := hf 1 _ rfl
    have h2 := hf 2 _ rfl
    have k0 : DataW.trod enc Tryd.prog w base spare held m 4 [c0] = some y0 := h0
    have k1 : DataW.trod enc Tryd.prog w base spare held m 22 [c1] = some y1 := h1
    have k2 : DataW.trod enc Tryd.prog w base spare held m 23 [c2] = some y2 := h2
    clear h0 h1 h2 hf
    obtain ⟨l, hl, _⟩ := DataW.trod_bool Tryd.underlying4 k0
    simp at hl
    subst hl
    obtain ⟨a, n, c, bs, hb, hB⟩ := bytes_of Tryd.underlying22 Tryd.underlying5 (by kernel_rfl) k1
    simp at hb
    subst hb
    rcases DataW.trod_slice Tryd.underlying23 k2 with ⟨hn, _⟩ | ⟨a', len, cap, elems, rest, m2, hm2, hcs, _, _, hle, hcm, helen, hel, _, _⟩
    · simp at hn
      subst hn
      exact ⟨l, bs, .nil, a, n, c, none, 0, 0, rfl, hB, rfl, Nat.le_refl _, by decide, fun _ => rfl, .inl rfl⟩
    · simp at hcs
      subst hcs
      have each : ∀ i, i < len → ∃ l bs k a n c a2 n2 c2, w.cell? (a'.add (i * 3)) = some (.bool l) ∧ w.cell? (a'.add (i * 3 + 1)) = some (.slice a n c) ∧ w.cell? (a'.add (i * 3 + 2)) = some (.slice a2 n2 c2) ∧ IsB w a n c bs ∧ IsK w a2 n2 c2 k := by
        intro i hi
        have he := hel i hi
        rw [hC] at he
        have hle2 : i < elems.length := by omega
        rw [List.getElem?_eq_getElem hle2] at he
        cases hcc : w.cells? base (a'.add (i * 3)) 3 with
        | none => rw [hcc] at he; simp at he
        | some cs' =>
          rw [hcc] at he
          simp only [Option.bind_some] at he
          obtain ⟨l, bs, k, a, n, c, a2, n2, c2, e, h3, h4⟩ := ih m2 (by omega) cs' _ he
          obtain ⟨_, hlen, hat⟩ := World.cells?_some hcc
          subst e
          have q0 := hat 0 (by decide)
          have q1 := hat 1 (by decide)
          have q2 := hat 2 (by decide)
          rw [Go.Deep.add_add] at q0 q1 q2
          exact ⟨l, bs, k, a, n, c, a2, n2, c2, q0, q1, q2, h3, h4⟩
      rcases Nat.eq_zero_or_pos len with h0 | h0
      · exact ⟨l, bs, .nil, a, n, c, some a', len, cap, rfl, hB, h0, hle, hcm, fun e => (by cases e), .inl h0⟩
      · obtain ⟨b, o, s⟩ := a'
        have hs : s = none := by
          obtain ⟨_, _, _, _, _, _, _, _, _, q, _⟩ := each 0 h0
          simpa [Addr.add] using World.cell?_spot q
        subst hs
        have build : ∀ m j, j + m = len → ∃ k : Fo, k.len = m ∧ IsFo w k b (o + 3 * j) := by
          intro m
          induction m with
          | zero => intro j _; exact ⟨.nil, rfl, trivial⟩
          | succ m ihm =>
            intro j hj
            obtain ⟨r, hr1, hr2⟩ := ihm (j + 1) (by omega)
            obtain ⟨l, bs, k, a, n, c, a2, n2, c2, q0, q1, q2, h3, h4⟩ := each j (by omega)
            rw [add_at] at q0 q1 q2
            rw [show o + j * 3 = o + 3 * j from by omega] at q0
            rw [show o + (j * 3 + 1) = o + 3 * j + 1 from by omega] at q1
            rw [show o + (j * 3 + 2) = o + 3 * j + 2 from by omega] at q2
            rw [show o + 3 * (j + 1) = o + 3 * j + 3 from by omega] at hr2
            obtain ⟨g1, g2, g3, g4, g5⟩ := h4
            exact ⟨.cons l bs k r, by show r.len + 1 = m + 1; omega, q0, ⟨a, n, c, q1, h3⟩, ⟨a2, n2, c2, q2, g1, g2, g3, g4, g5⟩, hr2⟩
        obtain ⟨k, hk1, hk2⟩ := build len 0 (by omega)
        exact ⟨l, bs, k, a, n, c, some ⟨b, o, none⟩, len, cap, rfl, hB, hk1.symm, hle, hcm, fun e => (by cases e), .inr ⟨b, o, rfl, hk2⟩⟩
end
set_option maxRecDepth 100000 in
theorem items_in {H : Type} {enc : TypeId × Value → H} {w : World} {base : Nat} {spare : Nat → Bool} {held : Bool} {r : Reach} {b0 : Nat} {v : Value} {d : DataW H} {p : List MemPlace} (hv : Value.okWide Tryd.prog w r b0 25 v)
    (h : DataW.Trod enc Tryd.prog w base spare held 25 v d p) : ∃ l bs k, IsIt w v l bs k := by
  obtain ⟨cs, rfl, hsz⟩ := okWide_struct Tryd.underlying25 hv
  obtain ⟨fuel, hf⟩ := h
  obtain ⟨l, bs, k, a, n, c, a', n', c', e, h1, h2⟩ := item_of fuel _ _ hf
  refine ⟨l, bs, k, a, n, c, a', n', c', ?_, h1, h2⟩
  obtain ⟨cl⟩ := cs
  have hc3 : cl.length = 3 := hsz.trans (show Tryd.prog.cellsOf 25 = 3 by kernel_rfl)
  match cl, hc3 with
  | [x, y, z], _ =>
    have e' : [x, y, z] = [.bool l, .slice a n c, .slice a' n' c'] := by simpa [Value.cells] using e
    rw [e']
end Rl
end Go.Proofs.YthlmjcochpodgaaDoor
namespace Go.Proofs.YthlmjcochpodgaaDoor
open Go.ChangeShapes Go.WideShapes Go.Deep Go.RowKit
set_option linter.unusedVariables false
namespace Rl
/-- Each row of bytes is one that a machine can hold. -/
def Fo.fit : Fo → Prop
  | .nil => True
  | .cons _ b k r => b.length ≤ reachBytes ∧ k.fit ∧ r.fit
theorem weightsAll_mem {H : Type} {P : Program} {e : TypeId} : ∀ {ds : List (DataW H)} {d : DataW H}, d ∈ ds → ∀ m ∈ d.weights P e, m ∈ DataW.weightsAll P e ds
  | d0 :: ds, d, hd, m, hm => by
    simp only [DataW.weightsAll, List.mem_append]
    rcases List.mem_cons.1 hd with rfl | h
    · exact .inl hm
    · exact .inr (weightsAll_mem h m hm)
theorem weights_elem {H : Type} {P : Program} {t e : TypeId} (ht : P.underlying t = some (.slice e)) {x : DataW H × List MemPlace} {elems rest : List (DataW H × List MemPlace)} {pl : List MemPlace} (hx : x = (.slice (elems.map (·.1)) (rest.map (·.1)), pl)) {i : Nat} (hi : i < elems.length) :
    ∀ m ∈ elems[i].1.weights P e, m ∈ x.1.weights P t := by
  intro m hm
  rw [hx]
  simp only [DataW.weights, ht, List.mem_cons, List.mem_append]
  exact .inr (.inl (weightsAll_mem (List.mem_map.2 ⟨elems[i], List.getElem_mem hi, rfl⟩) m hm))
theorem weights_item {H : Type} {x y0 y1 y2 : DataW H × List MemPlace} {pl : List MemPlace} (hx : x = (.agg ([y0, y1, y2].map (·.1)), pl)) :
    (∀ m ∈ y1.1.weights Tryd.prog 22, m ∈ x.1.weights Tryd.prog 25) ∧ ∀ m ∈ y2.1.weights Tryd.prog 23, m ∈ x.1.weights Tryd.prog 25 := by
  subst hx
  constructor
  · intro m hm
    simp only [DataW.weights, Tryd.underlying25]
    exact DataW.weights_mem_each (j := 1) rfl rfl m hm
  · intro m hm
    simp only [DataW.weights, Tryd.underlying25]
    exact DataW.weights_mem_each (j := 2) rfl rfl m hm
section
variable {H : Type} {enc : TypeId × Value → H} {P : Program} {w : World} {base : Nat} {spare : Nat → Bool} {held : Bool}
theorem bytes_fit {t e : TypeId} {fuel : Nat} {cs : List Value} {x : DataW H × List MemPlace} (ht : P.underlying t = some (.slice e)) (he : P.underlying e = some (.int .u8)) (hc : P.cellsOf e = 1) (hbo : P.bytesOf e = 1)
    (h : DataW.trod enc P w base spare held fuel t cs = some x) : ∃ a n c bs, cs = [.slice a n c] ∧ IsB w a n c bs ∧ ((∀ m ∈ x.1.weights P t, m ≤ reachBytes) → n ≤ reachBytes) := by
  rcases open_ints ht he hc h with ⟨h0, _⟩ | ⟨a, len, cap, zs, hcs, _, hl, hm, hz, hx, hcell, hwf⟩
  · exact ⟨none, 0, 0, [], h0, ⟨rfl, Nat.le_refl _, by decide, fun _ => rfl, .inl rfl⟩, fun _ => Nat.zero_le _⟩
  · have hlz : len ≤ zs.length := by rw [hz]; split <;> omega
    refine ⟨some a, len, cap, (zs.take len).map fun z => BitVec.ofNat 8 z.toNat, hcs, ⟨by simp; omega, hl, hm, fun e => (by cases e), ?_⟩, ?_⟩
    rotate_left
    · intro hw
      have h9 := hw ((lits .u8 (zs.take len) : List (DataW H)).length + (lits .u8 (zs.drop len) : List (DataW H)).length) (by
        rw [hx]; simp [DataW.weights, ht, hbo])
      simp [lits] at h9
      omega
    rcases Nat.eq_zero_or_pos len with h0 | h0
    · exact .inl h0
    · right
      obtain ⟨b, o, s⟩ := a
      have hs : s = none := by
        have h1 := hcell 0 (by omega)
        simpa [Addr.add] using World.cell?_spot h1
      subst hs
      refine ⟨b, o, rfl, fun i x hx => ?_⟩
      have hil : i < len := by
        have := (List.getElem?_eq_some_iff.1 hx).1
        simp at this; omega
      have h1 := hcell i (by omega)
      rw [add_at] at h1
      rw [h1]
      rw [List.getElem?_map, List.getElem?_take, if_pos hil, List.getElem?_eq_getElem (by omega)] at hx
      injection hx with hx
      subst hx
      have hw := hwf (zs.getD i 0) (by rw [List.getD_eq_getElem?_getD, List.getElem?_eq_getElem (by omega)]; exact List.getElem_mem _)
      rw [List.getD_eq_getElem?_getD, List.getElem?_eq_getElem (by omega)] at hw ⊢
      simp only [Option.getD_some] at hw ⊢
      have hw2 := Bool.and_eq_true_iff.1 hw
      have hb1 : (0 : Int) ≤ zs[i] := of_decide_eq_true hw2.1
      have hb2 : zs[i] ≤ (255 : Int) := of_decide_eq_true hw2.2
      unfold bvb
      rw [BitVec.toNat_ofNat]
      congr 2
      omega
end
section
variable {H : Type} {enc : TypeId × Value → H} {w : World} {base : Nat} {spare : Nat → Bool} {held : Bool}
set_option maxRecDepth 100000 in
theorem item_fit : ∀ (fuel : Nat) (cs : List Value) (x : DataW H × List MemPlace), DataW.trod enc Tryd.prog w base spare held fuel 25 cs = some x →
    ∃ l bs k a n c a' n' c', cs = [.bool l, .slice a n c, .slice a' n' c'] ∧ IsB w a n c bs ∧ IsK w a' n' c' k ∧ ((∀ m ∈ x.1.weights Tryd.prog 25, m ≤ reachBytes) → bs.length ≤ reachBytes ∧ k.fit) := by
  intro fuel
  induction fuel using Nat.strongRecOn with
  | _ fuel ih =>
    intro cs x h
    obtain ⟨ys, m, hm, hx, hcl, hyl, hf⟩ := DataW.trod_struct Tryd.underlying25 h
    have hC : Tryd.prog.cellsOf 25 = 3 := by kernel_rfl
    rw [hC] at hcl
    obtain ⟨c0, c1, c2, rfl⟩ : ∃ a b c, cs = [a, b, c] := by
      match cs, hcl with
      | [a, b, c], _ => exact ⟨a, b, c, rfl⟩
    have ys3 : ys.length = 3 := hyl
    obtain ⟨y0, y1, y2, rfl⟩ : ∃ a b c, ys = [a, b, c] := by
      match ys, ys3 with
      | [a, b, c], _ => exact ⟨a, b, c, rfl⟩
    have h0 := hf 0 _ rfl
    have h1 := hf 1 _ rfl
    have h2 := hf 2 _ rfl
    have k0 : DataW.trod enc Tryd.prog w base spare held m 4 [c0] = some y0 := h0
    have k1 : DataW.trod enc Tryd.prog w base spare held m 22 [c1] = some y1 := h1
    have k2 : DataW.trod enc Tryd.prog w base spare held m 23 [c2] = some y2 := h2
    clear h0 h1 h2 hf
    obtain ⟨l, hl, _⟩ := DataW.trod_bool Tryd.underlying4 k0
    simp at hl
    subst hl
    obtain ⟨a, n, c, bs, hb, hB, hBw⟩ := bytes_fit Tryd.underlying22 Tryd.underlying5 (by kernel_rfl) (by kernel_rfl) k1
    have hx1 := weights_item hx
    simp at hb
    subst hb
    rcases DataW.trod_slice Tryd.underlying23 k2 with ⟨hn, _⟩ | ⟨a', len, cap, elems, rest, m2, hm2, hcs, hx2, _, hle, hcm, helen, hel, _, _⟩
    · simp at hn
      subst hn
      exact ⟨l, bs, .nil, a, n, c, none, 0, 0, rfl, hB, ⟨rfl, Nat.le_refl _, by decide, fun _ => rfl, .inl rfl⟩, fun hw => ⟨hB.1 ▸ hBw fun m hm => hw m (hx1.1 m hm), trivial⟩⟩
    · simp at hcs
      subst hcs
      have each : ∀ i, i < len → ∃ l bs k a n c a2 n2 c2, w.cell? (a'.add (i * 3)) = some (.bool l) ∧ w.cell? (a'.add (i * 3 + 1)) = some (.slice a n c) ∧ w.cell? (a'.add (i * 3 + 2)) = some (.slice a2 n2 c2) ∧ IsB w a n c bs ∧ IsK w a2 n2 c2 k ∧ ((∀ m ∈ x.1.weights Tryd.prog 25, m ≤ reachBytes) → bs.length ≤ reachBytes ∧ k.fit) := by
        intro i hi
        have he := hel i hi
        rw [hC] at he
        have hle2 : i < elems.length := by omega
        rw [List.getElem?_eq_getElem hle2] at he
        cases hcc : w.cells? base (a'.add (i * 3)) 3 with
        | none => rw [hcc] at he; simp at he
        | some cs' =>
          rw [hcc] at he
          simp only [Option.bind_some] at he
          obtain ⟨l, bs, k, a, n, c, a2, n2, c2, e, h3, h4, hfit⟩ := ih m2 (by omega) cs' _ he
          obtain ⟨_, hlen, hat⟩ := World.cells?_some hcc
          subst e
          have q0 := hat 0 (by decide)
          have q1 := hat 1 (by decide)
          have q2 := hat 2 (by decide)
          rw [Go.Deep.add_add] at q0 q1 q2
          exact ⟨l, bs, k, a, n, c, a2, n2, c2, q0, q1, q2, h3, h4, fun hw => hfit fun m hm => hw m (hx1.2 m (weights_elem Tryd.underlying23 hx2 hle2 m hm))⟩
      rcases Nat.eq_zero_or_pos len with h0 | h0
      · exact ⟨l, bs, .nil, a, n, c, some a', len, cap, rfl, hB, ⟨h0, hle, hcm, fun e => (by cases e), .inl h0⟩, fun hw => ⟨hB.1 ▸ hBw fun m hm => hw m (hx1.1 m hm), trivial⟩⟩
      · obtain ⟨b, o, s⟩ := a'
        have hs : s = none := by
          obtain ⟨_, _, _, _, _, _, _, _, _, q, _⟩ := each 0 h0
          simpa [Addr.add] using World.cell?_spot q
        subst hs
        have build : ∀ m j, j + m = len → ∃ k : Fo, k.len = m ∧ IsFo w k b (o + 3 * j) ∧ ((∀ m ∈ x.1.weights Tryd.prog 25, m ≤ reachBytes) → k.fit) := by
          intro m
          induction m with
          | zero => intro j _; exact ⟨.nil, rfl, trivial, fun _ => trivial⟩
          | succ m ihm =>
            intro j hj
            obtain ⟨r, hr1, hr2, hr3⟩ := ihm (j + 1) (by omega)
            obtain ⟨l, bs, k, a, n, c, a2, n2, c2, q0, q1, q2, h3, h4, hfit⟩ := each j (by omega)
            rw [add_at] at q0 q1 q2
            rw [show o + j * 3 = o + 3 * j from by omega] at q0
            rw [show o + (j * 3 + 1) = o + 3 * j + 1 from by omega] at q1
            rw [show o + (j * 3 + 2) = o + 3 * j + 2 from by omega] at q2
            rw [show o + 3 * (j + 1) = o + 3 * j + 3 from by omega] at hr2
            obtain ⟨g1, g2, g3, g4, g5⟩ := h4
            exact ⟨.cons l bs k r, by show r.len + 1 = m + 1; omega, ⟨q0, ⟨a, n, c, q1, h3⟩, ⟨a2, n2, c2, q2, g1, g2, g3, g4, g5⟩, hr2⟩, fun hw => ⟨(hfit hw).1, (hfit hw).2, hr3 hw⟩⟩
        obtain ⟨k, hk1, hk2, hk3⟩ := build len 0 (by omega)
        exact ⟨l, bs, k, a, n, c, some ⟨b, o, none⟩, len, cap, rfl, hB, ⟨hk1.symm, hle, hcm, fun e => (by cases e), .inr ⟨b, o, rfl, hk2⟩⟩, fun hw => ⟨hB.1 ▸ hBw fun m hm => hw m (hx1.1 m hm), hk3 hw⟩⟩
end
set_option maxRecDepth 100000 in
theorem items_fit {H : Type} {enc : TypeId × Value → H} {w : World} {base : Nat} {spare : Nat → Bool} {held : Bool} {r : Reach} {b0 : Nat} {v : Value} {d : DataW H} {p : List MemPlace} (hv : Value.okWide Tryd.prog w r b0 25 v)
    (h : DataW.Trod enc Tryd.prog w base spare held 25 v d p) (hw : ∀ m ∈ d.weights Tryd.prog 25, m ≤ reachBytes) : ∃ l bs k, IsIt w v l bs k ∧ bs.length ≤ reachBytes ∧ k.fit := by
  obtain ⟨cs, rfl, hsz⟩ := okWide_struct Tryd.underlying25 hv
  obtain ⟨fuel, hf⟩ := h
  obtain ⟨l, bs, k, a, n, c, a', n', c', e, h1, h2, h3⟩ := item_fit fuel _ _ hf
  refine ⟨l, bs, k, ⟨a, n, c, a', n', c', ?_, h1, h2⟩, h3 hw⟩
  obtain ⟨cl⟩ := cs
  have hc3 : cl.length = 3 := hsz.trans (show Tryd.prog.cellsOf 25 = 3 by kernel_rfl)
  match cl, hc3 with
  | [x, y, z], _ =>
    have e' : [x, y, z] = [.bool l, .slice a n c, .slice a' n' c'] := by simpa [Value.cells] using e
    rw [e']
end Rl
end Go.Proofs.YthlmjcochpodgaaDoor
namespace Go.Proofs.YthlmjcochpodgaaDoor
open Go.ChangeShapes Go.WideShapes Go.Deep Go.RowKit
set_option linter.unusedVariables false
set_option linter.unusedSimpArgs false
namespace Rl
def Fo.drop : Fo → Nat → Fo
  | k, 0 => k
  | .nil, _ + 1 => .nil
  | .cons _ _ _ r, j + 1 => r.drop j
theorem Fo.drop_zero (k : Fo) : k.drop 0 = k := by cases k <;> rfl
theorem Fo.drop_len : ∀ (k : Fo) (j : Nat), (k.drop j).len = k.len - j
  | k, 0 => by rw [Fo.drop_zero]; omega
  | .nil, j + 1 => by show 0 = 0 - (j + 1); omega
  | .cons _ _ _ r, j + 1 => by show (r.drop j).len = r.len + 1 - (j + 1); rw [Fo.drop_len r j]; omega
theorem Fo.drop_end {k : Fo} {j : Nat} (h : k.len ≤ j) : k.drop j = .nil := by
  have := Fo.drop_len k j
  cases e : k.drop j with
  | nil => rfl
  | cons l b k1 r =>
    rw [e] at this
    have h2 : r.len + 1 = k.len - j := this
    omega
theorem Fo.drop_succ : ∀ (k : Fo) (j : Nat) {l b k1 r}, k.drop j = .cons l b k1 r → k.drop (j + 1) = r
  | .nil, 0, _, _, _, _, h => by cases h
  | .nil, j + 1, _, _, _, _, h => by cases h
  | .cons _ _ _ r, 0, _, _, _, _, h => by
    rw [Fo.drop_zero] at h; injection h with h1 h2 h3 h4; subst h4; exact Fo.drop_zero _
  | .cons _ _ _ r, j + 1, _, _, _, _, h => Fo.drop_succ r j h
theorem IsFo.drop {w : World} : ∀ (k : Fo) (j b o : Nat), IsFo w k b o → IsFo w (k.drop j) b (o + 3 * j)
  | k, 0, b, o, h => by rw [Fo.drop_zero]; simpa using h
  | .nil, j + 1, b, o, h => trivial
  | .cons l bs k r, j + 1, b, o, ⟨_, _, _, h⟩ => by
    have := IsFo.drop r j b (o + 3) h
    rw [show o + 3 + 3 * j = o + 3 * (j + 1) by omega] at this
    exact this
/-- The item at a place of a slice of items. -/
theorem IsK.at {w : World} {a : Option Addr} {n c : Nat} {k : Fo} (h : IsK w a n c k) {j : Nat} (hj : j < n) :
    ∃ b o l bs k1 a1 n1 c1 a2 n2 c2, a = some ⟨b, o, none⟩ ∧ k.drop j = .cons l bs k1 (k.drop (j + 1)) ∧ IsB w a1 n1 c1 bs ∧ IsK w a2 n2 c2 k1 ∧
      w.cell? ⟨b, o + j * 3, none⟩ = some (.bool l) ∧ w.cell? ⟨b, o + j * 3 + 1, none⟩ = some (.slice a1 n1 c1) ∧ w.cell? ⟨b, o + j * 3 + 2, none⟩ = some (.slice a2 n2 c2) := by
  obtain ⟨h1, h2, h3, h4, h5⟩ := h
  rcases h5 with h5 | ⟨b, o, ha, hf⟩
  · omega
  · have hd := IsFo.drop k j b o hf
    have hl := Fo.drop_len k j
    cases e : k.drop j with
    | nil =>
      rw [e] at hl
      have : 0 = k.len - j := hl
      omega
    | cons l bs k1 r =>
      rw [e] at hd
      obtain ⟨g1, ⟨a1, n1, c1, g2, g3⟩, ⟨a2, n2, c2, g4, g5⟩, g6⟩ := hd
      rw [Nat.mul_comm 3 j] at g1 g2 g4
      exact ⟨b, o, l, bs, k1, a1, n1, c1, a2, n2, c2, ha, by rw [Fo.drop_succ k j e], g3, g5, g1, g2, g4⟩
theorem cells25 : Tryd.prog.cellsOf 25 = 3 := by kernel_rfl
def dp (k : Fo) : Nat → Bool
  | 0 => true
  | m + 1 => k.deep m
set_option maxHeartbeats 1000000 in
set_option maxRecDepth 100000 in
theorem own_walk (w : World) (l : Bool) (n c n' c' : Nat) (a a' : Option Addr) :
    Calls Tryd.prog 28 #[.agg #[.bool l, .slice a n c, .slice a' n' c']] w fun e w' => e = .returned (.bool (if l then (n : Int) == 0 else (n' : Int) == 0)) ∧ Below w.heap.size w w' := by
  cases l with
  | true =>
    go_enter Tryd.func28, Tryd.ntmps28
    go_wp2_with (fail)
    go_ret
    exact ⟨rfl, (Below.refl _ _).alloc (Nat.le_refl _) _⟩
  | false =>
    go_enter Tryd.func28, Tryd.ntmps28
    go_wp2_with (fail)
    go_ret
    exact ⟨rfl, (Below.refl _ _).alloc (Nat.le_refl _) _⟩
set_option maxHeartbeats 1000000 in
set_option maxRecDepth 100000 in
theorem deeper_zero (w : World) (l : Bool) (n c n' c' : Nat) (a a' : Option Addr) :
    Calls Tryd.prog 26 #[.agg #[.bool l, .slice a n c, .slice a' n' c'], .int .i64 0] w fun e w' => e = .returned (.bool true) ∧ Below w.heap.size w w' := by
  go_enter Tryd.func26, Tryd.ntmps26
  go_wp2_with (fail)
  go_ret
  exact ⟨rfl, (Below.refl _ _).alloc (Nat.le_refl _) _⟩
set_option maxHeartbeats 2000000 in
set_option maxRecDepth 100000 in
theorem deeper_step (m : Nat) (hm : m < 100) (ih : ∀ (w : World) (l : Bool) (n c n' c' : Nat) (a a' : Option Addr) (k : Fo), IsK w a' n' c' k → Calls Tryd.prog 26 #[.agg #[.bool l, .slice a n c, .slice a' n' c'], .int .i64 m] w fun e w' => e = .returned (.bool (dp k m)) ∧ Below w.heap.size w w')
    (w : World) (l : Bool) (n c n' c' : Nat) (a a' : Option Addr) (k : Fo) (hk : IsK w a' n' c' k) :
    Calls Tryd.prog 26 #[.agg #[.bool l, .slice a n c, .slice a' n' c'], .int .i64 (m + 1 : Nat)] w fun e w' => e = .returned (.bool (dp k (m + 1))) ∧ Below w.heap.size w w' := by
  have HK := Lib.hid hk
  clear hk
  have hne : ((m : Int) + 1 == 0) = false := by
    have : ¬ (m : Int) + 1 = 0 := by omega
    simpa using this
  rw [show ((m + 1 : Nat) : Int) = (m : Int) + 1 from rfl]
  go_enter Tryd.func26, Tryd.ntmps26
  go_wp2_with (fail)
  have HB : Hid (Below w.heap.size w (w.alloc (.cells #[.bool l, .slice a n c, .slice a' n' c'] 25))) := Lib.hid ((Below.refl _ _).alloc (Nat.le_refl _) _)
  generalize w.alloc (.cells #[.bool l, .slice a n c, .slice a' n' c'] 25) = y0 at *
  have HN : Hid (n' ≤ maxLen) := Lib.hid (by have := HK.out; exact Nat.le_trans this.2.1 this.2.2.1)
  go_loopw [12] (fun i y => ∃ j : Nat, j ≤ n' ∧ i = .int .i64 j ∧ Hid (k.deep m = (k.drop j).deep m ∧ Below w.heap.size w y)) (fun i _ => n' - (intOf i).toNat)
  case atStart => exact ⟨0, Nat.zero_le _, rfl, Lib.hid ⟨by rw [Fo.drop_zero], HB.out⟩⟩
  case round =>
    obtain ⟨j, hj, rfl, hp⟩ := hrel
    clear HB
    by_cases hlt : (j : Int) < (n' : Int)
    · obtain ⟨b, o, l1, bs, k1, a1, n1, c1, a2, n2, c2, rfl, hd, hb1, hk1, g0, g1, g2⟩ := (HK.out.keep (keep_below hp.out.2)).at (show j < n' by omega)
      have HD := Lib.hid hd
      have HK1 := Lib.hid hk1
      clear hd hb1 hk1
      have hjm : (j : Int) < 9223372036854775807 := by have := HN.out; simp only [maxLen] at this; omega
      have HS := Lib.hid (bl hp.out.2 ((Below.refl wr.heap.size wr).alloc (Nat.le_refl _) (.cells #[.bool l1, .slice a1 n1 c1, .slice a2 n2 c2] 25)))
      have HC := Lib.hid (ih _ l1 n1 c1 n2 c2 a1 a2 k1 (HK1.out.keep (keep_below ((Below.refl wr.heap.size wr).alloc (Nat.le_refl _) (.cells #[.bool l1, .slice a1 n1 c1, .slice a2 n2 c2] 25)))))
      have HE := Lib.hid hp.out.1
      have HJ := Lib.hid (show j < n' ∧ wrap64 ((j : Int) + 1) = ((j + 1 : Nat) : Int) by refine ⟨by omega, ?_⟩; unfold wrap64; omega)
      have HW := Lib.hid (show wrap64 (m : Int) = m by unfold wrap64; omega)
      clear HK1 ih hp hm hj
      generalize hdp : dp k1 m = D at *
      have HDP := Lib.hid hdp
      clear hdp
      go_wp2_with (go_at_call 26; rw [HW.out]; (with_reducible refine HC.out.mono ?_); rintro e y1 ⟨rfl, hb⟩; have H1 := Lib.hid (bl HS.out hb); clear hb HC g0 g1 g2 HS hlt hjm)
      · go_ret
        refine ⟨?_, H1.out⟩
        show Ending.returned (.bool true) = .returned (.bool (k.deep m))
        rw [HE.out, HD.out]
        show Ending.returned (.bool true) = .returned (.bool (dp k1 m || (k.drop (j + 1)).deep m))
        rw [HDP.out, ‹D = true›]; rfl
      · go_roundw
        case rel => exact ⟨j + 1, HJ.out.1, by rw [HJ.out.2], Lib.hid ⟨by rw [HE.out, HD.out]; show (dp k1 m || (k.drop (j + 1)).deep m) = _; rw [HDP.out, ‹D = false›]; rfl, H1.out⟩⟩
        case measure => rw [HJ.out.2]; have := HJ.out.1; simp [intOf]; omega
    · go_wp2_with (fail)
      go_ret
      refine ⟨?_, hp.out.2⟩
      show Ending.returned (.bool false) = .returned (.bool (k.deep m))
      rw [hp.out.1, Fo.drop_end (by have := HK.out.1; omega)]; rfl
theorem deeper_walk : ∀ (m : Nat), m ≤ 100 → ∀ (w : World) (l : Bool) (n c n' c' : Nat) (a a' : Option Addr) (k : Fo), IsK w a' n' c' k →
    Calls Tryd.prog 26 #[.agg #[.bool l, .slice a n c, .slice a' n' c'], .int .i64 m] w fun e w' => e = .returned (.bool (dp k m)) ∧ Below w.heap.size w w' := by
  intro m
  induction m with
  | zero => intro _ w l n c n' c' a a' k _; exact deeper_zero w l n c n' c' a a'
  | succ m ih => intro hm w l n c n' c' a a' k hk; exact deeper_step m (by omega) (ih (by omega)) w l n c n' c' a a' k hk
theorem Fo.drop_size : ∀ (k : Fo) (j : Nat), (k.drop j).size ≤ k.size
  | k, 0 => by rw [Fo.drop_zero]; exact Nat.le_refl _
  | .nil, j + 1 => Nat.le_refl _
  | .cons _ _ k r, j + 1 => by
    have := Fo.drop_size r j
    show (r.drop j).size ≤ k.size + r.size + 2
    omega
theorem Fo.drop_kid {k : Fo} {j : Nat} {l b k1 r} (h : k.drop j = .cons l b k1 r) : k1.size < k.size := by
  have := Fo.drop_size k j
  rw [h] at this
  have h2 : k1.size + r.size + 2 ≤ k.size := this
  omega
/-- Is an item one, to the bottom? -/
def whole (l : Bool) (n : Nat) (k : Fo) : Bool := (if l then (n : Int) == 0 else (k.len : Int) == 0) && k.right
theorem whole_right (l : Bool) (bs : List Bt) (k r : Fo) : (Fo.cons l bs k r).right = (whole l bs.length k && r.right) := by
  unfold whole
  show ((if l then bs.isEmpty else k.len == 0) && k.right && r.right) = _
  congr 2
  cases l
  · show (k.len == 0) = ((k.len : Int) == 0)
    rw [Bool.eq_iff_iff]; simp; 
  · show bs.isEmpty = ((bs.length : Int) == 0)
    rw [Bool.eq_iff_iff]; simp
set_option maxHeartbeats 2000000 in
set_option maxRecDepth 100000 in
theorem every_step (w : World) (l : Bool) (n c n' c' : Nat) (a a' : Option Addr) (k : Fo) (hk : IsK w a' n' c' k)
    (ih : ∀ (w : World) (l : Bool) (n c n' c' : Nat) (a a' : Option Addr) (k1 : Fo), k1.size < k.size → IsK w a' n' c' k1 → Calls Tryd.prog 27 #[.agg #[.bool l, .slice a n c, .slice a' n' c'], .func (.func 28) #[] #[]] w fun e w' => e = .returned (.bool (whole l n k1)) ∧ Below w.heap.size w w') :
    Calls Tryd.prog 27 #[.agg #[.bool l, .slice a n c, .slice a' n' c'], .func (.func 28) #[] #[]] w fun e w' => e = .returned (.bool (whole l n k)) ∧ Below w.heap.size w w' := by
  have HK := Lib.hid hk
  have HI := Lib.hid ih
  clear hk ih
  have HO := Lib.hid (own_walk (w.alloc (.cells #[.bool l, .slice a n c, .slice a' n' c'] 25)) l n c n' c' a a')
  have HB : Hid (Below w.heap.size w (w.alloc (.cells #[.bool l, .slice a n c, .slice a' n' c'] 25))) := Lib.hid ((Below.refl _ _).alloc (Nat.le_refl _) _)
  have HN : Hid (n' ≤ maxLen) := Lib.hid (by have := HK.out; exact Nat.le_trans this.2.1 this.2.2.1)
  generalize hq : (if l then (n : Int) == 0 else (n' : Int) == 0) = q at *
  have HQ : Hid (whole l n k = (q && k.right)) := Lib.hid (by rw [← hq]; unfold whole; rw [show k.len = n' from HK.out.1.symm])
  clear hq
  go_enter Tryd.func27, Tryd.ntmps27
  go_wp2_with (go_at_call 28; (with_reducible refine HO.out.mono ?_); rintro e y0 ⟨rfl, hb⟩; have H0 := Lib.hid (bl HB.out hb); have HC0 := keep1 hb (o := 2) (b := w.heap.size) (x := .slice a' n' c') (by simp); clear hb)
  · go_ret
    refine ⟨?_, H0.out⟩
    rw [HQ.out, show q = false by simpa using ‹(!q) = true›]; rfl
  · have HQ1 : Hid (whole l n k = k.right) := Lib.hid (by rw [HQ.out, show q = true by simpa using ‹(!q) = false›]; rfl)
    have hq1 : q = true := by simpa using ‹(!q) = false›
    have hq2 : (!q) = false := ‹(!q) = false›
    rw [hq2]
    clear HB HO HQ hq1 hq2
    go_loopw [14] (fun i y => ∃ j : Nat, j ≤ n' ∧ i = .int .i64 j ∧ Hid (k.right = (k.drop j).right ∧ Below w.heap.size w y)) (fun i _ => n' - (intOf i).toNat)
    case atStart => exact ⟨0, Nat.zero_le _, rfl, Lib.hid ⟨by rw [Fo.drop_zero], H0.out⟩⟩
    case round =>
      obtain ⟨j, hj, rfl, hp⟩ := hrel
      clear H0 HC0
      by_cases hlt : (j : Int) < (n' : Int)
      · obtain ⟨b, o, l1, bs, k1, a1, n1, c1, a2, n2, c2, rfl, hd, hb1, hk1, g0, g1, g2⟩ := (HK.out.keep (keep_below hp.out.2)).at (show j < n' by omega)
        have HD := Lib.hid hd
        have HS := Lib.hid (bl hp.out.2 ((Below.refl wr.heap.size wr).alloc (Nat.le_refl _) (.cells #[.bool l1, .slice a1 n1 c1, .slice a2 n2 c2] 25)))
        have HC := Lib.hid (HI.out _ l1 n1 c1 n2 c2 a1 a2 k1 (Fo.drop_kid hd) (hk1.keep (keep_below ((Below.refl wr.heap.size wr).alloc (Nat.le_refl _) (.cells #[.bool l1, .slice a1 n1 c1, .slice a2 n2 c2] 25)))))
        have HE := Lib.hid hp.out.1
        have HJ := Lib.hid (show j < n' ∧ wrap64 ((j : Int) + 1) = ((j + 1 : Nat) : Int) by refine ⟨by omega, ?_⟩; have := HN.out; simp only [maxLen] at this; unfold wrap64; omega)
        have HNb := Lib.hid hb1.1
        clear hd hb1 hk1 hp hj
        generalize hdp : whole l1 n1 k1 = D at *
        have HDP := Lib.hid hdp
        clear hdp
        go_wp2_with (go_at_call 27; (with_reducible refine HC.out.mono ?_); rintro e y1 ⟨rfl, hb⟩; have H1 := Lib.hid (bl HS.out hb); clear hb HC g0 g1 g2 HS hlt)
        · go_ret
          refine ⟨?_, H1.out⟩
          rw [HQ1.out, HE.out, HD.out, whole_right, ← HNb.out, HDP.out, show D = false by simpa using ‹(!D) = true›]; rfl
        · go_roundw
          case rel => exact ⟨j + 1, HJ.out.1, by rw [HJ.out.2], Lib.hid ⟨by rw [HE.out, HD.out, whole_right, ← HNb.out, HDP.out, show D = true by simpa using ‹(!D) = false›]; rfl, H1.out⟩⟩
          case measure => rw [HJ.out.2]; have := HJ.out.1; simp [intOf]; omega
      · go_wp2_with (fail)
        go_ret
        refine ⟨?_, hp.out.2⟩
        rw [HQ1.out, hp.out.1, Fo.drop_end (by have := HK.out.1; omega)]; rfl
theorem every_walk (w : World) (l : Bool) (n c n' c' : Nat) (a a' : Option Addr) (k : Fo) (hk : IsK w a' n' c' k) :
    Calls Tryd.prog 27 #[.agg #[.bool l, .slice a n c, .slice a' n' c'], .func (.func 28) #[] #[]] w fun e w' => e = .returned (.bool (whole l n k)) ∧ Below w.heap.size w w' := by
  generalize hs : k.size = s at *
  induction s using Nat.strongRecOn generalizing w l n c n' c' a a' k with
  | _ s ih =>
    subst hs
    exact every_step w l n c n' c' a a' k hk fun w l n c n' c' a a' k1 h1 h2 => ih k1.size h1 w l n c n' c' a a' k1 h2 rfl
end Rl
end Go.Proofs.YthlmjcochpodgaaDoor
namespace Go.Proofs.YthlmjcochpodgaaDoor
open Go.ChangeShapes Go.WideShapes Go.Deep Go.RowKit
set_option linter.unusedVariables false
set_option linter.unusedSimpArgs false
namespace Rl
theorem one1 : ∃ i, Tryd.prog.info? 5 = some i ∧ i.zero = some (.int .u8 0) ∧ i.size = 1 ∧ i.bytes = 1 := by
  refine ⟨(Tryd.prog.info? 5).get (by kernel_rfl), by kernel_rfl, by kernel_rfl, by kernel_rfl, by kernel_rfl⟩
theorem und22 : Tryd.prog.underlying 22 = some (.slice 5) := by kernel_rfl
/-- A row of bytes of the call's own. -/
def Own (w : World) (B : Nat) (V : Value) (bs : List Bt) : Prop := w.ownsRow B 5 1 V bs.length (bs.map bvb)
theorem Own.nil (w : World) (B : Nat) : Own w B (.slice none 0 0) [] := World.ownsRow_nil _ _ _ _
theorem Own.base {w : World} {B : Nat} {V : Value} {bs : List Bt} (h : Own w B V bs) {k : Nat} (hk : V.ownBlock = some k) : B ≤ k ∧ k < w.heap.size := h.lt k hk
theorem Own.below {w w' : World} {B : Nat} {V : Value} {bs : List Bt} (h : Own w B V bs) (hb : Below w.heap.size w w') : Own w' B V bs := by
  obtain ⟨h1, h2⟩ := h
  refine ⟨h1, h2.imp id ?_⟩
  rintro ⟨g, cap, cur, e1, e2, e3, e4⟩
  refine ⟨g, cap, cur, e1, e2, ?_, e4⟩
  rw [hb.block g (Array.getElem?_eq_some_iff.1 e3).1]; exact e3
theorem Own.isB {w : World} {B : Nat} {V : Value} {bs : List Bt} (h : Own w B V bs) : ∃ a c, V = .slice a bs.length c ∧ IsB w a bs.length c bs := by
  have hc := @World.ownsRow.cells w B 5 1 V bs.length (bs.map bvb) h
  rcases h.2 with ⟨h1, h2⟩ | ⟨g, cap, cur, e1, e2, e3, e4, e5, _, _⟩
  · refine ⟨none, 0, by rw [h1, h2], rfl, by omega, by decide, fun _ => rfl, .inl h2⟩
  · refine ⟨some ⟨g, 0, none⟩, cap, e1, rfl, e4, e5, fun e => (by cases e), .inr ⟨g, 0, rfl, fun i x hx => ?_⟩⟩
    have h5 := hc (g := g) (by rw [e1]; rfl) i (bvb x) (by rw [List.getElem?_map, hx]; rfl)
    rw [add_at] at h5
    exact h5
theorem IsB.src {w : World} {a : Option Addr} {n c : Nat} {bs : List Bt} (h : IsB w a n c bs) :
    (a = none ∧ n = 0 ∧ c = 0 ∧ bs.map bvb = []) ∨ ∃ ad, a = some ad ∧ (bs.map bvb).length = n * 1 ∧ ∀ j u, (bs.map bvb)[j]? = some u → w.cell? (ad.add j) = some u := by
  obtain ⟨h1, h2, h3, h4, h5⟩ := h
  cases a with
  | none =>
    have hc := h4 rfl
    have hn : n = 0 := by omega
    refine .inl ⟨rfl, hn, hc, ?_⟩
    rw [List.eq_nil_of_length_eq_zero (by omega : bs.length = 0)]; rfl
  | some ad =>
    refine .inr ⟨ad, rfl, by simp; omega, fun j u hu => ?_⟩
    rw [List.getElem?_map] at hu
    cases hx : bs[j]? with
    | none => rw [hx] at hu; cases hu
    | some x =>
      rw [hx] at hu
      injection hu with hu
      subst hu
      rcases h5 with h5 | ⟨b, o, e, h6⟩
      · have := (List.getElem?_eq_some_iff.1 hx).1; omega
      · injection e with e
        subst e
        rw [add_at]
        exact h6 j x hx
theorem wpList_appB {w : World} {ops : Array Oper} {rest : List Oper} {o : Oper} {a : Act} {Q : Exit → Act → World → Prop} (hgd : o.guard = none) (s x : Operand)
    (ho : o.op = .call { callee := .builtin .append, args := #[s, x], argTypes := #[22, 22] })
    (B : Nat) (V : Value) (xs : List Bt) (hs : a.eval s = V) (hown : Own w B V xs) (A : Option Addr) (m c : Nat) (ys : List Bt) (hx : a.eval x = .slice A m c) (hsrc : IsB w A m c ys)
    (hlen : xs.length + ys.length ≤ 1073741824) (hbase : B ≤ w.heap.size)
    (h : ∀ V' w', Own w' B V' (xs ++ ys) → w.grownBy w' V.ownBlock → (∀ k, V'.ownBlock = some k → V.ownBlock = some k ∨ k = w.heap.size) → wpList Tryd.prog ops Q rest (a.put o.dst V') w') : wpList Tryd.prog ops Q (o :: rest) a w := by
  obtain ⟨i, hi⟩ := one1
  have hm : m = ys.length := hsrc.1
  have hoo : ∀ V' w', w'.ownsRow B 5 1 V' (xs.length + m) (xs.map bvb ++ ys.map bvb) → Own w' B V' (xs ++ ys) := fun V' w' hh => by
    unfold Own; rw [List.length_append, List.map_append, ← hm]; exact hh
  rcases hsrc.src with ⟨rfl, rfl, rfl, e⟩ | ⟨ad, rfl, hl, hc⟩
  · refine wpList_append_own_none hgd s x 22 ho B 5 i 1 und22 hi.1 V xs.length (xs.map bvb) hs hown hx ?_
    exact h V w (hoo V w (by rw [e, Nat.add_zero, List.append_nil]; exact hown)) (World.grownBy.refl w _) (fun k hk => .inl hk)
  · exact wpList_append_at w hgd s x 22 ho B 5 i (.int .u8 0) 1 1 und22 hi rfl (by decide) V xs.length (xs.map bvb) hs hown ad m c (ys.map bvb) hx hl hc (by intro u hu; obtain ⟨b, _, rfl⟩ := List.mem_map.1 hu; rfl) (by unfold maxLen; omega) (by omega) hbase
      (fun V' w' h1 h2 h3 => h V' w' (hoo V' w' h1) h2 h3)
/-- One byte in new memory. -/
theorem isB_one {w : World} (x : Bt) (v : Value) (hv : v = bvb x) : IsB (w.alloc (.cells #[v] 5)) (some ⟨w.heap.size, 0, none⟩) 1 1 [x] := by
  subst hv
  refine ⟨rfl, Nat.le_refl _, by decide, fun e => (by cases e), .inr ⟨w.heap.size, 0, rfl, fun i y hy => ?_⟩⟩
  match i with
  | 0 => simp at hy; subst hy; simp
  | i + 1 => simp at hy
set_option maxHeartbeats 1000000 in
set_option maxRecDepth 100000 in
theorem digits_zero (w : World) : Calls Tryd.prog 25 #[.slice none 0 0, .int .u64 0] w fun e w' => e = .returned (.slice none 0 0) ∧ w' = w := by
  go_enter Tryd.func25, Tryd.ntmps25
  go_wp2_with (fail)
  go_ret
  exact ⟨rfl, rfl⟩
set_option maxHeartbeats 1000000 in
set_option maxRecDepth 100000 in
theorem digits_step (w : World) (v : Nat) (hv : v < 18446744073709551616) (h0 : v ≠ 0) (ds : List Bt) (hd : ds.length ≤ 8)
    (ih : Calls Tryd.prog 25 #[.slice none 0 0, .int .u64 ((v : Int) / 256)] w fun e w' => ∃ V, e = .returned V ∧ Own w' w.heap.size V ds ∧ Below w.heap.size w w') :
    Calls Tryd.prog 25 #[.slice none 0 0, .int .u64 v] w fun e w' => ∃ V, e = .returned V ∧ Own w' w.heap.size V (ds ++ [BitVec.ofNat 8 v]) ∧ Below w.heap.size w w' := by
  have hne : ((v : Int) == 0) = false := by
    have : ¬ (v : Int) = 0 := by omega
    simpa using this
  have HI := Lib.hid ih
  have HV := Lib.hid hv
  have HD := Lib.hid hd
  clear ih hv h0 hd
  go_enter Tryd.func25, Tryd.ntmps25
  go_wp2_with (first
    | (go_at_call 25; (with_reducible refine HI.out.mono ?_); rintro e y1 ⟨V, rfl, hO, hb⟩; have HO := Lib.hid hO; have HB := Lib.hid hb; clear hO hb HI)
    | (refine wpList_appB rfl (.tmp 11) (.tmp 14) rfl w.heap.size V ds rfl (HO.out.below ((Below.refl _ _).alloc (Nat.le_refl _) _)) (some ⟨y1.heap.size, 0, none⟩) 1 1 [BitVec.ofNat 8 v] rfl (isB_one _ _ (by unfold bvb; rw [BitVec.toNat_ofNat]; congr 1)) (by have := HD.out; simp; omega) (by have := HB.out.size; simp; omega) ?_
       intro V2 y2 hO2 hg hat
       have HO2 := Lib.hid hO2
       have HB2 := Lib.hid ((HB.out.alloc HB.out.size _).grown hg (by have := HB.out.size; simp; omega) (fun k hk => (HO.out.base hk).1))
       clear hO2 hg hat))
  go_ret
  exact ⟨V2, rfl, HO2.out, HB2.out⟩
theorem digits_walk : ∀ (f v : Nat), f ≤ 8 → v < 256 ^ f → ∀ w : World, Calls Tryd.prog 25 #[.slice none 0 0, .int .u64 v] w fun e w' => ∃ V, e = .returned V ∧ Own w' w.heap.size V (digs f v) ∧ Below w.heap.size w w' := by
  intro f
  induction f with
  | zero =>
    intro v _ hv w
    obtain rfl : v = 0 := by simpa using hv
    refine (digits_zero w).mono ?_
    rintro e w' ⟨rfl, rfl⟩
    exact ⟨_, rfl, Own.nil _ _, Below.refl _ _⟩
  | succ f ih =>
    intro v hf hv w
    have hp : 256 ^ (f + 1) ≤ 256 ^ 8 := Nat.pow_le_pow_right (by decide) hf
    by_cases h0 : v = 0
    · subst h0
      refine (digits_zero w).mono ?_
      rintro e w' ⟨rfl, rfl⟩
      exact ⟨_, rfl, by unfold digs; exact Own.nil _ _, Below.refl _ _⟩
    · have e : digs (f + 1) v = digs f (v / 256) ++ [BitVec.ofNat 8 v] := by rw [digs, if_neg h0]
      rw [e]
      have h1 := ih (v / 256) (by omega) (by rw [Nat.pow_succ] at hv; exact Nat.div_lt_of_lt_mul (by omega)) w
      exact digits_step w v (Nat.lt_of_lt_of_le hv hp) h0 _ (by have := digs_len_le f (v / 256); omega) h1
end Rl
end Go.Proofs.YthlmjcochpodgaaDoor
namespace Go.Proofs.YthlmjcochpodgaaDoor
open Go.ChangeShapes Go.WideShapes Go.Deep Go.RowKit
set_option linter.unusedVariables false
set_option linter.unusedSimpArgs false
namespace Rl
set_option maxHeartbeats 1000000 in
set_option maxRecDepth 100000 in
theorem single_list (w : World) (n c n' c' : Nat) (a a' : Option Addr) :
    Calls Tryd.prog 42 #[.agg #[.bool true, .slice a n c, .slice a' n' c']] w fun e w' => e = .returned (.bool false) ∧ Below w.heap.size w w' := by
  go_enter Tryd.func42, Tryd.ntmps42
  go_wp2_with (fail)
  go_ret
  exact ⟨rfl, (Below.refl _ _).alloc (Nat.le_refl _) _⟩
set_option maxHeartbeats 1000000 in
set_option maxRecDepth 100000 in
theorem single_long (w : World) (n c n' c' : Nat) (a a' : Option Addr) (h : n ≠ 1) :
    Calls Tryd.prog 42 #[.agg #[.bool false, .slice a n c, .slice a' n' c']] w fun e w' => e = .returned (.bool false) ∧ Below w.heap.size w w' := by
  have hne : ((n : Int) == 1) = false := by
    have : ¬ (n : Int) = 1 := by omega
    simpa using this
  clear h
  go_enter Tryd.func42, Tryd.ntmps42
  go_wp2_with (fail)
  go_ret
  exact ⟨rfl, (Below.refl _ _).alloc (Nat.le_refl _) _⟩
set_option maxHeartbeats 1000000 in
set_option maxRecDepth 100000 in
theorem single_one (w : World) (c n' c' b o : Nat) (a' : Option Addr) (x : Bt) (hc : w.cell? ⟨b, o, none⟩ = some (bvb x)) :
    Calls Tryd.prog 42 #[.agg #[.bool false, .slice (some ⟨b, o, none⟩) 1 c, .slice a' n' c']] w fun e w' => e = .returned (.bool (decide (x.toNat < 128))) ∧ Below w.heap.size w w' := by
  have hc2 := keep1 ((Below.refl w.heap.size w).alloc (Nat.le_refl _) (.cells #[.bool false, .slice (some ⟨b, o, none⟩) 1 c, .slice a' n' c'] 25)) hc
  unfold bvb at hc hc2
  go_enter Tryd.func42, Tryd.ntmps42
  go_wp2_with (fail)
  go_ret
  refine ⟨?_, (Below.refl _ _).alloc (Nat.le_refl _) _⟩
  have e : decide ((x.toNat : Int) < 128) = decide (x.toNat < 128) := by rw [decide_eq_decide]; omega
  show Ending.returned (.bool (decide ((x.toNat : Int) < 128))) = _
  rw [e]
theorem single_walk (w : World) (l : Bool) (n c n' c' : Nat) (a a' : Option Addr) (bs : List Bt) (hb : IsB w a n c bs) :
    Calls Tryd.prog 42 #[.agg #[.bool l, .slice a n c, .slice a' n' c']] w fun e w' => e = .returned (.bool (single l bs)) ∧ Below w.heap.size w w' := by
  cases l with
  | true => exact single_list w n c n' c' a a'
  | false =>
    obtain ⟨h1, h2, h3, h4, h5⟩ := hb
    match bs with
    | [x] =>
      rcases h5 with h5 | ⟨b, o, rfl, h6⟩
      · rw [h5] at h1; simp at h1
      · have h7 := h6 0 x rfl
        obtain rfl : n = 1 := h1
        exact single_one w c n' c' b o a' x h7
    | [] => exact single_long w n c n' c' a a' (by simp at h1; omega)
    | x :: y :: r => exact single_long w n c n' c' a a' (by simp at h1; omega)
/-- How many bytes stand behind those of the length, and how many in all. -/
theorem form_len (l : Bool) (b c : List Bt) : (wrap l b c).length = if single l b then b.length else (if b.length + c.length < 56 then 1 else 1 + (big (b.length + c.length)).length) + (b.length + c.length) := by
  unfold wrap
  split
  · rfl
  · rw [List.length_append, head_len, List.length_append]
set_option maxHeartbeats 1000000 in
set_option maxRecDepth 100000 in
theorem size_step (w : World) (l : Bool) (n c n' c' : Nat) (a a' : Option Addr) (s : Bool) (q R : Nat) (hq : q < 1073741824) (hR : R = if s then q else (if q < 56 then 1 else 1 + (big q).length) + q)
    (hc : ∀ w0, Below w.heap.size w w0 → Calls Tryd.prog 41 #[.agg #[.bool l, .slice a n c, .slice a' n' c']] w0 fun e w' => e = .returned (.int .i64 q) ∧ Below w0.heap.size w0 w')
    (hs : ∀ w0, Below w.heap.size w w0 → Calls Tryd.prog 42 #[.agg #[.bool l, .slice a n c, .slice a' n' c']] w0 fun e w' => e = .returned (.bool s) ∧ Below w0.heap.size w0 w') :
    Calls Tryd.prog 29 #[.agg #[.bool l, .slice a n c, .slice a' n' c']] w fun e w' => e = .returned (.int .i64 (R : Nat)) ∧ Below w.heap.size w w' := by
  have HR := Lib.hid hR
  clear hR
  have HQ := Lib.hid hq
  have HC := Lib.hid hc
  have HS := Lib.hid hs
  clear hc hs hq
  have HB : Hid (Below w.heap.size w (w.alloc (.cells #[.bool l, .slice a n c, .slice a' n' c'] 25))) := Lib.hid ((Below.refl _ _).alloc (Nat.le_refl _) _)
  have HW : Hid (IntKind.u64.wrap (q : Int) = (q : Int)) := Lib.hid (by have := HQ.out; show (q : Int) % 18446744073709551616 = q; omega)
  go_enter Tryd.func29, Tryd.ntmps29
  go_wp2_with (first
    | (go_at_call 41; (with_reducible refine (HC.out _ HB.out).mono ?_); rintro e y1 ⟨rfl, hb⟩; have H1 := Lib.hid (bl HB.out hb); have c0 := keep1 hb (o := 0) (b := w.heap.size) (x := .bool l) (by simp); have c1 := keep1 hb (o := 1) (b := w.heap.size) (x := .slice a n c) (by simp); have c2 := keep1 hb (o := 2) (b := w.heap.size) (x := .slice a' n' c') (by simp); clear hb HC)
    | (go_at_call 42; (with_reducible refine (HS.out _ H1.out).mono ?_); rintro e y2 ⟨rfl, hb⟩; have H2 := Lib.hid (bl H1.out hb); have HG := Lib.hid (digits_walk 8 q (by decide) (by have := HQ.out; omega) y2); clear hb HS c0 c1 c2)
    | (go_at_call 25; rw [HW.out]; (with_reducible refine HG.out.mono ?_); rintro e y3 ⟨V, rfl, hO, hb⟩; have H3 := Lib.hid (bl H2.out hb); obtain ⟨a3, c3, rfl, hB3⟩ := hO.isB; clear hb hO hB3))
  · go_ret
    refine ⟨?_, H2.out⟩
    rw [show R = q by rw [HR.out, if_pos ‹s = true›]]
    rfl
  · go_ret
    refine ⟨?_, H2.out⟩
    have hs0 : ¬ s = true := by rw [‹s = false›]; decide
    have hq0 : q < 56 := by omega
    rw [show R = 1 + q by rw [HR.out, if_neg hs0, if_pos hq0]]
    rfl
  · go_ret
    refine ⟨?_, H3.out⟩
    have hs0 : ¬ s = true := by rw [‹s = false›]; decide
    have hq0 : ¬ q < 56 := by omega
    have e : R = 1 + (big q).length + q := by rw [HR.out, if_neg hs0, if_neg hq0]
    have e2 := big_le q
    have e3 : (digs 8 q).length = (big q).length := rfl
    have hq1 := HQ.out
    rw [e3, e]
    have e4 : wrap64 (wrap64 (1 + ((big q).length : Int)) + (q : Int)) = ((1 + (big q).length + q : Nat) : Int) := by unfold wrap64; omega
    show Ending.returned (.int .i64 (wrap64 (wrap64 (1 + ((big q).length : Int)) + (q : Int)))) = _
    rw [e4]
theorem Fo.drop_right : ∀ (k : Fo) (j : Nat), k.right = true → (k.drop j).right = true
  | k, 0, h => by rw [Fo.drop_zero]; exact h
  | .nil, j + 1, _ => rfl
  | .cons l b k r, j + 1, h => by
    have h2 : r.right = true := by
      have h3 : (_ && r.right) = true := h
      exact (Bool.and_eq_true_iff.1 h3).2
    exact Fo.drop_right r j h2
theorem Fo.kid_right {k : Fo} {j : Nat} {l b k1 r} (h : k.right = true) (hd : k.drop j = .cons l b k1 r) : whole l b.length k1 = true := by
  have := Fo.drop_right k j h
  rw [hd, whole_right] at this
  exact (Bool.and_eq_true_iff.1 this).1
theorem whole_kids {l : Bool} {n : Nat} {k : Fo} (h : whole l n k = true) : k.right = true := (Bool.and_eq_true_iff.1 h).2
theorem whole_side {l : Bool} {bs : List Bt} {k : Fo} (h : whole l bs.length k = true) (hs : single l bs = true) : k = .nil := by
  obtain ⟨rfl, _⟩ := single_iff.1 hs
  have h1 := (Bool.and_eq_true_iff.1 h).1
  have h2 : (k.len : Int) = 0 := by simpa using h1
  exact len_zero (by have : k.len = 0 := by omega
                     rw [this]; rfl)
def B30 : Nat := 1073741824
theorem Fo.form_cons (l : Bool) (b : List Bt) (k r : Fo) : (Fo.cons l b k r).form = wrap l b k.form ++ r.form := rfl
theorem Fo.drop_form : ∀ (k : Fo) (j : Nat), (k.drop j).form.length ≤ k.form.length
  | k, 0 => by rw [Fo.drop_zero]; exact Nat.le_refl _
  | .nil, j + 1 => Nat.le_refl _
  | .cons l b k r, j + 1 => by
    have := Fo.drop_form r j
    rw [Fo.form_cons, List.length_append]
    show (r.drop j).form.length ≤ _
    omega
set_option maxHeartbeats 2000000 in
set_option maxRecDepth 100000 in
theorem content_step (w : World) (l : Bool) (n c n' c' : Nat) (a a' : Option Addr) (bs : List Bt) (k : Fo) (hb : IsB w a n c bs) (hk : IsK w a' n' c' k) (hs : bs.length + k.form.length < B30) (hr : k.right = true)
    (ih : ∀ (w : World) (l : Bool) (n c n' c' : Nat) (a a' : Option Addr) (bs : List Bt) (k1 : Fo), k1.size < k.size → whole l bs.length k1 = true → IsB w a n c bs → IsK w a' n' c' k1 → (wrap l bs k1.form).length < B30 → Calls Tryd.prog 29 #[.agg #[.bool l, .slice a n c, .slice a' n' c']] w fun e w' => e = .returned (.int .i64 (wrap l bs k1.form).length) ∧ Below w.heap.size w w') :
    Calls Tryd.prog 41 #[.agg #[.bool l, .slice a n c, .slice a' n' c']] w fun e w' => e = .returned (.int .i64 (bs.length + k.form.length : Nat)) ∧ Below w.heap.size w w' := by
  have HK := Lib.hid hk
  have HI := Lib.hid ih
  have HS := Lib.hid hs
  have HBn := Lib.hid hb.1
  have HR := Lib.hid hr
  clear hk ih hs hr
  have HN : Hid (n' ≤ maxLen) := Lib.hid (by have := HK.out; exact Nat.le_trans this.2.1 this.2.2.1)
  have HB : Hid (Below w.heap.size w (w.alloc (.cells #[.bool l, .slice a n c, .slice a' n' c'] 25))) := Lib.hid ((Below.refl _ _).alloc (Nat.le_refl _) _)
  clear hb
  go_enter Tryd.func41, Tryd.ntmps41
  go_wp2_with (fail)
  generalize w.alloc (.cells #[.bool l, .slice a n c, .slice a' n' c'] 25) = y0 at *
  go_loopw [3, 12] (fun t i y => ∃ j T : Nat, j ≤ n' ∧ i = .int .i64 j ∧ t = .int .i64 T ∧ Hid (T + (k.drop j).form.length = bs.length + k.form.length ∧ Below w.heap.size w y)) (fun _ i _ => n' - (intOf i).toNat)
  case atStart => exact ⟨0, n, Nat.zero_le _, rfl, rfl, Lib.hid ⟨by rw [Fo.drop_zero, HBn.out], HB.out⟩⟩
  case round =>
    obtain ⟨j, T, hj, rfl, rfl, hp⟩ := hrel
    clear HB
    by_cases hlt : (j : Int) < (n' : Int)
    · obtain ⟨b, o, l1, bs1, k1, a1, n1, c1, a2, n2, c2, rfl, hd, hb1, hk1, g0, g1, g2⟩ := (HK.out.keep (keep_below hp.out.2)).at (show j < n' by omega)
      have HS1 := Lib.hid (bl hp.out.2 ((Below.refl wr.heap.size wr).alloc (Nat.le_refl _) (.cells #[.bool l1, .slice a1 n1 c1, .slice a2 n2 c2] 25)))
      have hkeep := keep_below ((Below.refl wr.heap.size wr).alloc (Nat.le_refl _) (.cells #[.bool l1, .slice a1 n1 c1, .slice a2 n2 c2] 25))
      have hT : T + (wrap l1 bs1 k1.form).length + (k.drop (j + 1)).form.length = bs.length + k.form.length := by
        have := hp.out.1; rw [hd, Fo.form_cons, List.length_append] at this; omega
      generalize hz : (wrap l1 bs1 k1.form).length = Z at *
      have HC := Lib.hid (HI.out _ l1 n1 c1 n2 c2 a1 a2 bs1 k1 (Fo.drop_kid hd) (Fo.kid_right HR.out hd) (hb1.keep hkeep) (hk1.keep hkeep) (by rw [hz]; have := HS.out; omega))
      rw [hz] at HC
      have HT := Lib.hid hT
      have HJ := Lib.hid (show j < n' ∧ wrap64 ((j : Int) + 1) = ((j + 1 : Nat) : Int) ∧ wrap64 ((T : Int) + (Z : Int)) = ((T + Z : Nat) : Int) by
        refine ⟨by omega, ?_, ?_⟩
        · have := HN.out; simp only [maxLen] at this; unfold wrap64; omega
        · have := HS.out; unfold B30 at this; unfold wrap64; omega)
      clear hd hb1 hk1 hp hj hT hz hkeep
      go_wp2_with (go_at_call 29; (with_reducible refine HC.out.mono ?_); rintro e y1 ⟨rfl, hb⟩; have H1 := Lib.hid (bl HS1.out hb); clear hb HC g0 g1 g2 HS1 hlt)
      go_roundw
      case rel => exact ⟨j + 1, T + Z, HJ.out.1, by rw [HJ.out.2.1], by rw [HJ.out.2.2], Lib.hid ⟨by have := HT.out; omega, H1.out⟩⟩
      case measure => rw [HJ.out.2.1]; have := HJ.out.1; simp [intOf]; omega
    · go_wp2_with (fail)
      go_ret
      refine ⟨?_, hp.out.2⟩
      have e := hp.out.1
      rw [Fo.drop_end (by have := HK.out.1; omega)] at e
      have e2 : T = bs.length + k.form.length := e
      exact congrArg (fun z : Nat => Ending.returned (.int .i64 (z : Int))) e2
theorem size_walk (w : World) (l : Bool) (n c n' c' : Nat) (a a' : Option Addr) (bs : List Bt) (k : Fo) (hb : IsB w a n c bs) (hk : IsK w a' n' c' k) (hs : (wrap l bs k.form).length < B30) (hr : whole l bs.length k = true) :
    Calls Tryd.prog 29 #[.agg #[.bool l, .slice a n c, .slice a' n' c']] w fun e w' => e = .returned (.int .i64 (wrap l bs k.form).length) ∧ Below w.heap.size w w' := by
  generalize hz : k.size = z at *
  induction z using Nat.strongRecOn generalizing w l n c n' c' a a' bs k with
  | _ z ih =>
    subst hz
    have hside : single l bs = true → k.form.length = 0 := fun h => by rw [whole_side hr h]; rfl
    have hle : bs.length + k.form.length < B30 := by
      rw [form_len] at hs
      cases h1 : single l bs with
      | false => rw [h1] at hs; simp only [Bool.false_eq_true, if_false] at hs; omega
      | true =>
        rw [h1] at hs
        simp only [if_true] at hs
        have h2 := hside h1
        omega
    have hl := form_len l bs k.form
    have hl2 : (wrap l bs k.form).length = if single l bs then bs.length + k.form.length else (if bs.length + k.form.length < 56 then 1 else 1 + (big (bs.length + k.form.length)).length) + (bs.length + k.form.length) := by
      rw [hl]
      cases h1 : single l bs with
      | false => rfl
      | true => simp only [if_true]; have := hside h1; omega
    refine size_step w l n c n' c' a a' (single l bs) (bs.length + k.form.length) _ hle hl2 ?_ ?_
    · intro w0 h0
      exact content_step w0 l n c n' c' a a' bs k (hb.keep (keep_below h0)) (hk.keep (keep_below h0)) hle (whole_kids hr) fun w l n c n' c' a a' bs k1 h1 h2 h3 h4 h5 => ih k1.size h1 w l n c n' c' a a' bs k1 h3 h4 h5 h2 rfl
    · intro w0 h0
      exact single_walk w0 l n c n' c' a a' bs (hb.keep (keep_below h0))
end Rl
end Go.Proofs.YthlmjcochpodgaaDoor
