/- Merged. Own work. -/
import Derived.Test.YtdmffnjbholkkaaDoorUy
import Derived.Test.YtdmffnjbholkkaaDoorGd
import Derived.Test.YtdmffnjbholkkaaDoorMc
import Derived.Deep.DeepCutAuto
import Derived.Deep.CutBlock
import Derived.Test.YtdmffnjbholkkaaDoorArr
import Derived.Deep.Slices
import Derived.Deep.Fields
import Derived.ChangeSame
import Derived.OpenShut
namespace Go.Proofs.YtdmffnjbholkkaaDoor
open Go.RowKit
set_option linter.unusedVariables false
set_option linter.unusedSimpArgs false
set_option linter.unusedVariables false
set_option linter.unusedSimpArgs false
namespace Wt
open Kc Mk
section
variable {β : Type}
theorem look_key {M : List (Hx × β)} {h h' : Hx} (e : key h = key h') : look M h = look M h' := by unfold look; rw [e]
theorem look_cons (q : Hx × β) (M : List (Hx × β)) (h : Hx) : look (q :: M) h = if key q.1 = key h then some q.2 else look M h := by
  unfold look
  rw [List.find?_cons]
  by_cases e : key q.1 = key h
  · simp [e]
  · have h1 : (key q.1 == key h) = false := by simpa using e
    simp [h1, e]
theorem look_map (k : Hx) (v : β) (h : Hx) : ∀ M : List (Hx × β), look (M.map fun q => if key q.1 == key k then (q.1, v) else q) h = if key k = key h then (look M h).map (fun _ => v) else look M h
  | [] => by
    show (none : Option β) = _
    split <;> rfl
  | q :: M => by
    rw [List.map_cons, look_cons, look_cons, look_map k v h M]
    by_cases e : key q.1 = key k
    · have e1 : (key q.1 == key k) = true := by simpa using e
      rw [if_pos e1]
      by_cases e2 : key k = key h
      · simp [e, e2]
      · simp [e, e2]
    · have e1 : ¬ (key q.1 == key k) = true := by simpa using e
      rw [if_neg e1]
      by_cases e2 : key k = key h
      · have h3 : ¬ key q.1 = key h := fun x => e (x.trans e2.symm)
        simp [h3, e2]
      · simp [e2]
theorem look_app (k : Hx) (v : β) (h : Hx) : ∀ M : List (Hx × β), look (M ++ [(k, v)]) h = (look M h).or (if key k = key h then some v else none)
  | [] => by
    rw [List.nil_append, look_cons]
    show _ = (none : Option β).or _
    simp
    rfl
  | q :: M => by
    rw [List.cons_append, look_cons, look_cons, look_app k v h M]
    by_cases e : key q.1 = key h
    · simp [e]
    · simp [e]
theorem look_putM (M : List (Hx × β)) (k : Hx) (v : β) (h : Hx) : look (putM M k v) h = if key k = key h then some v else look M h := by
  have hh := look_has M k
  unfold putM
  by_cases hk : has M k = true
  · rw [if_pos hk, look_map]
    by_cases e : key k = key h
    · rw [if_pos e, if_pos e, ← look_key (M := M) e]
      rw [hk] at hh
      obtain ⟨u, hu⟩ := Option.isSome_iff_exists.1 hh
      rw [hu]
      rfl
    · rw [if_neg e, if_neg e]
  · rw [if_neg hk, look_app]
    by_cases e : key k = key h
    · have h1 : look M k = none := by
        have h2 : has M k = false := by simpa using hk
        rw [h2] at hh
        simpa using hh
      rw [if_pos e, if_pos e, ← look_key (M := M) e, h1]
      rfl
    · rw [if_neg e, if_neg e]
      simp
end
/-- What one list knows, another one knows, too. -/
def Ext (N N' : List (Hx × Px)) : Prop := ∀ h p, look N h = some p → ∃ q, look N' h = some q ∧ pre q = pre p
theorem Ext.refl (N : List (Hx × Px)) : Ext N N := fun h p e => ⟨p, e, rfl⟩
theorem Ext.trans {N N' N2 : List (Hx × Px)} (h : Ext N N') (k : Ext N' N2) : Ext N N2 := fun x p e => by
  obtain ⟨q, h1, h2⟩ := h x p e
  obtain ⟨r, h3, h4⟩ := k x q h1
  exact ⟨r, h3, h4.trans h2⟩
theorem Ext.alike {M N : List (Hx × Px)} (h : Alike M N) : Ext M N := fun x p e => by
  have h1 := h.look x
  rw [e] at h1
  cases h2 : look N x with
  | none => rw [h2] at h1; cases h1
  | some q => rw [h2] at h1; exact ⟨q, rfl, by simpa using h1.symm⟩
theorem Ext.put {N : List (Hx × Px)} {p : Px} (h : clash N p = false) : Ext N (putM N (hs p) p) := fun x q e => by
  rw [look_putM]
  by_cases hk : key (hs p) = key x
  · rw [if_pos hk]
    refine ⟨p, rfl, ?_⟩
    have h1 : look N (hs p) = some q := (look_key hk).trans e
    have h2 : pre ((look N (hs p)).getD p) = pre p := by
      unfold clash at h
      simpa using h
    rw [h1] at h2
    exact h2.symm
  · rw [if_neg hk]
    exact ⟨q, e, rfl⟩
theorem hfb_key {p q : Px} (h : pre p = pre q) (b : Bool) : key (hfb p b) = key (hfb q b) := key_of fun i hi => by
  unfold hfb
  exact pre_get h _ (by split <;> omega)
theorem hfb_jn (x y : Hx) : key (hfb (jn x y) false) = key x ∧ key (hfb (jn x y) true) = key y := by
  refine ⟨key_of fun i hi => ?_, key_of fun i hi => ?_⟩
  · show jn x y (if false = true then 32 + i else i) = x i
    unfold jn
    simp [hi]
  · show jn x y (if true = true then 32 + i else i) = y i
    unfold jn
    rw [if_pos rfl, if_neg (by omega)]
    congr 1
    omega
theorem hs_pr {p : Px} {x y : Hx} (hx : key (hfb p false) = key x) (hy : key (hfb p true) = key y) : hs p = pr x y := by
  rw [← hs_jn]
  refine hs_pre (pre_of fun i hi => ?_)
  unfold jn
  by_cases h : i < 32
  · rw [if_pos h]
    have := key_at hx i h
    unfold hfb at this
    simpa using this
  · rw [if_neg h]
    have := key_at hy (i - 32) (by omega)
    unfold hfb at this
    rw [if_pos rfl, show 32 + (i - 32) = i from by omega] at this
    exact this
/-- A tree of a height that a list of preimages holds under a root: its leaves. -/
def Tr (N : List (Hx × Px)) : Nat → Hx → (Nat → Hx) → Prop
  | 0, h, L => key h = key (L 0)
  | d + 1, h, L => ∃ p, look N h = some p ∧ key h = key (hs p) ∧ Tr N d (hfb p false) L ∧ Tr N d (hfb p true) fun i => L (2 ^ d + i)
theorem Tr.key {N : List (Hx × Px)} : ∀ (d : Nat) {h h' : Hx} {L : Nat → Hx}, Wt.key h = Wt.key h' → Tr N d h L → Tr N d h' L
  | 0, h, h', L, e, t => e.symm.trans t
  | d + 1, h, h', L, e, t => by
    obtain ⟨p, h1, h2, h3, h4⟩ := t
    exact ⟨p, (look_key e).symm.trans h1, e.symm.trans h2, h3, h4⟩
theorem Tr.ext {N N' : List (Hx × Px)} (he : Ext N N') : ∀ (d : Nat) {h : Hx} {L : Nat → Hx}, Tr N d h L → Tr N' d h L
  | 0, h, L, t => t
  | d + 1, h, L, t => by
    obtain ⟨p, h1, h2, h3, h4⟩ := t
    obtain ⟨q, k1, k2⟩ := he h p h1
    exact ⟨q, k1, h2.trans (by rw [hs_pre k2]), Tr.key d (hfb_key k2 false).symm (Tr.ext he d h3), Tr.key d (hfb_key k2 true).symm (Tr.ext he d h4)⟩
theorem Tr.cong {N : List (Hx × Px)} : ∀ (d : Nat) {h : Hx} {L L' : Nat → Hx}, (∀ i, i < 2 ^ d → Wt.key (L i) = Wt.key (L' i)) → Tr N d h L → Tr N d h L'
  | 0, h, L, L', e, t => Eq.trans t (e 0 (by decide))
  | d + 1, h, L, L', e, t => by
    have hp : 2 ^ (d + 1) = 2 ^ d + 2 ^ d := by rw [Nat.pow_succ]; omega
    obtain ⟨p, h1, h2, h3, h4⟩ := t
    exact ⟨p, h1, h2, Tr.cong d (fun i hi => e i (by omega)) h3, Tr.cong d (fun i hi => e _ (by omega)) h4⟩
theorem key_pr {x y : Hx} (h : Wt.key x = Wt.key y) : ∀ i, i < 32 → x i = y i := fun i hi => key_at h i hi
theorem und_shift (g : Nat → Hx) (k : Nat) : ∀ d m, und (fun i => g (k + i)) d m = und g d (k + m)
  | 0, m => rfl
  | d + 1, m => by
    show pr _ _ = pr _ _
    rw [und_shift g k d m, und_shift g k d (m + 2 ^ d), Nat.add_assoc]
/-- The root is the tree's. -/
theorem Tr.root {N : List (Hx × Px)} : ∀ (d : Nat) {h : Hx} {L : Nat → Hx}, Tr N d h L → Wt.key h = Wt.key (und L d 0)
  | 0, h, L, t => t
  | d + 1, h, L, t => by
    obtain ⟨p, h1, h2, h3, h4⟩ := t
    have k3 := Tr.root d h3
    have k4 := Tr.root d h4
    rw [und_shift L (2 ^ d) d 0] at k4
    rw [h2, hs_pr k3 k4]
    show Wt.key (pr (und L d 0) (und L d (2 ^ d + 0))) = Wt.key (pr (und L d 0) (und L d (0 + 2 ^ d)))
    rw [Nat.add_comm]
theorem Tr.zero : ∀ (d : Nat), d ≤ 16 → Tr (zs 16) d (Mk.zero d) fun _ => Mk.zero 0
  | 0, _ => rfl
  | d + 1, hd => by
    have t := Tr.zero d (by omega)
    have e := hfb_jn (Mk.zero d) (Mk.zero d)
    exact ⟨zz d, look_zs d (by omega), by rw [hs_zz], Tr.key d e.1.symm t, Tr.key d e.2.symm t⟩
theorem bit_mod (i d k : Nat) (hk : k < d) : (i % 2 ^ d) / 2 ^ k % 2 = i / 2 ^ k % 2 := by
  have h := Nat.testBit_mod_two_pow i d k
  rw [Nat.testBit_eq_decide_div_mod_eq, Nat.testBit_eq_decide_div_mod_eq, decide_eq_true hk, Bool.true_and] at h
  have h1 : ((i % 2 ^ d) / 2 ^ k % 2 = 1) ↔ (i / 2 ^ k % 2 = 1) := by simpa using h
  have h2 := Nat.mod_lt ((i % 2 ^ d) / 2 ^ k) (show 0 < 2 by decide)
  have h3 := Nat.mod_lt (i / 2 ^ k) (show 0 < 2 by decide)
  omega
theorem bt_sub (d i j : Nat) (hj : j < d) : bt (d + 1) i (j + 1) = bt d (i % 2 ^ d) j := by
  unfold bt
  rw [bit_mod i d (d - 1 - j) (by omega), show d + 1 - 1 - (j + 1) = d - 1 - j from by omega]
/-- The way below the root is the half's way. -/
theorem hhw_sub {N : List (Hx × Px)} {h : Hx} {p : Px} (hp : look N h = some p) (d i : Nat) : ∀ j, j ≤ d → hhw N (d + 1) i h (j + 1) = hhw N d (i % 2 ^ d) (hfb p (bt (d + 1) i 0)) j
  | 0, _ => by
    show hfb ((look N (hhw N (d + 1) i h 0)).getD zp) (bt (d + 1) i 0) = hfb p (bt (d + 1) i 0)
    rw [hhw_zero, hp]
    rfl
  | j + 1, hj => by
    show hfb ((look N (hhw N (d + 1) i h (j + 1))).getD zp) (bt (d + 1) i (j + 1)) = hfb ((look N (hhw N d (i % 2 ^ d) (hfb p (bt (d + 1) i 0)) j)).getD zp) (bt d (i % 2 ^ d) j)
    rw [hhw_sub hp d i j (by omega), bt_sub d i j (by omega)]
theorem half_of (d i : Nat) (hi : i < 2 ^ (d + 1)) : (bt (d + 1) i 0 = false ∧ i % 2 ^ d = i ∧ i < 2 ^ d) ∨ (bt (d + 1) i 0 = true ∧ i = 2 ^ d + i % 2 ^ d) := by
  have hp : 2 ^ (d + 1) = 2 ^ d + 2 ^ d := by rw [Nat.pow_succ]; omega
  have h0 : 0 < 2 ^ d := Nat.pow_pos (by decide)
  unfold bt
  rw [show d + 1 - 1 - 0 = d from by omega]
  by_cases h : i < 2 ^ d
  · left
    refine ⟨?_, Nat.mod_eq_of_lt h, h⟩
    rw [Nat.div_eq_of_lt h]
    decide
  · right
    have h1 : i / 2 ^ d = 1 := by
      rw [Nat.div_eq_iff h0]
      omega
    refine ⟨by rw [h1]; decide, ?_⟩
    have := Nat.div_add_mod i (2 ^ d)
    rw [h1] at this
    omega
/-- A leaf is read. -/
theorem Tr.read {N : List (Hx × Px)} : ∀ (d : Nat) {h : Hx} {L : Nat → Hx} (i : Nat), Tr N d h L → i < 2 ^ d → (∀ j, j < d → has N (hhw N d i h j) = true) ∧ Wt.key (hhw N d i h d) = Wt.key (L i)
  | 0, h, L, i, t, hi => by
    obtain rfl : i = 0 := by simpa using hi
    exact ⟨fun j hj => by omega, t⟩
  | d + 1, h, L, i, t, hi => by
    obtain ⟨p, h1, h2, h3, h4⟩ := t
    have h0 : 0 < 2 ^ d := Nat.pow_pos (by decide)
    have hb : i % 2 ^ d < 2 ^ d := Nat.mod_lt _ h0
    have hhas : has N h = true := by rw [← look_has, h1]; rfl
    have key : (∀ j, j < d → has N (hhw N d (i % 2 ^ d) (hfb p (bt (d + 1) i 0)) j) = true) ∧ Wt.key (hhw N d (i % 2 ^ d) (hfb p (bt (d + 1) i 0)) d) = Wt.key (L i) := by
      rcases half_of d i hi with ⟨e1, e2, _⟩ | ⟨e1, e2⟩
      · rw [e1, e2]
        rw [e2] at hb
        exact Tr.read d i h3 hb
      · have h5 := Tr.read d (i % 2 ^ d) h4 hb
        rw [e1]
        refine ⟨h5.1, h5.2.trans ?_⟩
        show Wt.key (L (2 ^ d + i % 2 ^ d)) = Wt.key (L i)
        rw [← e2]
    refine ⟨fun j hj => ?_, ?_⟩
    · cases j with
      | zero => rw [hhw_zero]; exact hhas
      | succ j => rw [hhw_sub h1 d i j (by omega)]; exact key.1 j (by omega)
    · rw [hhw_sub h1 d i d (Nat.le_refl _)]; exact key.2
theorem wup_cong {sd sd' : Nat → Hx} {D D' i i' m : Nat} (N : List (Hx × Px)) (lf : Hx) (h : ∀ j, j < m → ∀ x, wjn sd D i j x = wjn sd' D' i' j x) : ∀ j, j ≤ m → wlf sd D i lf j = wlf sd' D' i' lf j ∧ wpr N sd D i lf j = wpr N sd' D' i' lf j
  | 0, _ => ⟨rfl, rfl⟩
  | j + 1, hj => by
    obtain ⟨h1, h2⟩ := wup_cong N lf h j (by omega)
    refine ⟨?_, ?_⟩
    · rw [wlf, wlf, h1, h j (by omega)]
    · rw [wpr, wpr, h1, h2, h j (by omega)]
theorem wmt_no {N : List (Hx × Px)} {sd : Nat → Hx} {d i : Nat} {lf : Hx} {met : Bool} : ∀ j, wmt met N sd d i lf j = false → met = false ∧ ∀ k, k < j → clash (wpr N sd d i lf k) (wjn sd d i k (wlf sd d i lf k)) = false
  | 0, h => ⟨h, fun k hk => by omega⟩
  | j + 1, h => by
    rw [wmt, Bool.or_eq_false_iff] at h
    obtain ⟨h1, h2⟩ := wmt_no j h.1
    refine ⟨h1, fun k hk => ?_⟩
    by_cases e : k = j
    · rw [e]; exact h.2
    · exact h2 k (by omega)
/-- A leaf is written. -/
theorem Tr.write {N : List (Hx × Px)} (lf : Hx) : ∀ (d : Nat) {h : Hx} {L : Nat → Hx} (i : Nat), Tr N d h L → i < 2 ^ d →
    (∀ k, k < d → clash (wpr N (sdv N (hhw N d i h) d i) d i lf k) (wjn (sdv N (hhw N d i h) d i) d i k (wlf (sdv N (hhw N d i h) d i) d i lf k)) = false) →
    Tr (wpr N (sdv N (hhw N d i h) d i) d i lf d) d (wlf (sdv N (hhw N d i h) d i) d i lf d) (put L i lf) ∧ Ext N (wpr N (sdv N (hhw N d i h) d i) d i lf d)
  | 0, h, L, i, t, hi, hc => by
    obtain rfl : i = 0 := by simpa using hi
    refine ⟨?_, Ext.refl _⟩
    show Wt.key lf = Wt.key (put L 0 lf 0)
    unfold put
    rw [if_pos rfl]
  | d + 1, h, L, i, t, hi, hc => by
    obtain ⟨p, h1, h2, h3, h4⟩ := t
    have hp2 : 2 ^ (d + 1) = 2 ^ d + 2 ^ d := by rw [Nat.pow_succ]; omega
    have h0 : 0 < 2 ^ d := Nat.pow_pos (by decide)
    have hb : i % 2 ^ d < 2 ^ d := Nat.mod_lt _ h0
    have hsd : ∀ j, j < d → sdv N (hhw N (d + 1) i h) (d + 1) i (j + 1) = sdv N (hhw N d (i % 2 ^ d) (hfb p (bt (d + 1) i 0))) d (i % 2 ^ d) j := fun j hj => by
      unfold sdv px
      rw [hhw_sub h1 d i j (by omega), bt_sub d i j hj]
    have hs0 : sdv N (hhw N (d + 1) i h) (d + 1) i 0 = hfb p (!bt (d + 1) i 0) := by
      unfold sdv px
      rw [hhw_zero, h1]
      rfl
    have hj : ∀ j, j < d → ∀ x, wjn (sdv N (hhw N (d + 1) i h) (d + 1) i) (d + 1) i j x = wjn (sdv N (hhw N d (i % 2 ^ d) (hfb p (bt (d + 1) i 0))) d (i % 2 ^ d)) d (i % 2 ^ d) j x := fun j hj x => by
      unfold wjn
      rw [show d + 1 - 1 - j = (d - 1 - j) + 1 from by omega, bt_sub d i (d - 1 - j) (by omega), hsd (d - 1 - j) (by omega)]
    have hcg := wup_cong N lf hj
    have hlast : ∀ x, wjn (sdv N (hhw N (d + 1) i h) (d + 1) i) (d + 1) i d x = if bt (d + 1) i 0 then jn (hfb p (!bt (d + 1) i 0)) x else jn x (hfb p (!bt (d + 1) i 0)) := fun x => by
      unfold wjn
      rw [show d + 1 - 1 - d = 0 from by omega, hs0]
    have hcd := hc d (Nat.lt_succ_self d)
    have hck : ∀ k, k < d → clash (wpr N (sdv N (hhw N d (i % 2 ^ d) (hfb p (bt (d + 1) i 0))) d (i % 2 ^ d)) d (i % 2 ^ d) lf k) (wjn (sdv N (hhw N d (i % 2 ^ d) (hfb p (bt (d + 1) i 0))) d (i % 2 ^ d)) d (i % 2 ^ d) k (wlf (sdv N (hhw N d (i % 2 ^ d) (hfb p (bt (d + 1) i 0))) d (i % 2 ^ d)) d (i % 2 ^ d) lf k)) = false := fun k hk => by
      have h9 := hc k (by omega)
      rw [(hcg k (by omega)).1, (hcg k (by omega)).2, hj k hk] at h9
      exact h9
    rw [wpr, wlf]
    rw [hlast, (hcg d (Nat.le_refl _)).1, (hcg d (Nat.le_refl _)).2] at hcd ⊢
    clear hcg hj hsd hs0 hlast hc
    rcases half_of d i hi with ⟨e1, e2, e3⟩ | ⟨e1, e2⟩
    · rw [e1] at hcd hck ⊢
      obtain ⟨k1, k2⟩ := Tr.write lf d (i % 2 ^ d) h3 hb hck
      generalize wlf (sdv N (hhw N d (i % 2 ^ d) (hfb p false)) d (i % 2 ^ d)) d (i % 2 ^ d) lf d = x at *
      generalize wpr N (sdv N (hhw N d (i % 2 ^ d) (hfb p false)) d (i % 2 ^ d)) d (i % 2 ^ d) lf d = N1 at *
      simp only [Bool.false_eq_true, if_false, Bool.not_false] at hcd ⊢
      have ke := Ext.put hcd
      have kj := hfb_jn x (hfb p true)
      refine ⟨⟨jn x (hfb p true), by rw [look_putM, if_pos rfl], rfl, Tr.key d kj.1.symm (Tr.cong d (fun m hm => ?_) (Tr.ext ke d k1)), Tr.key d kj.2.symm (Tr.cong d (fun m hm => ?_) (Tr.ext (k2.trans ke) d h4))⟩, k2.trans ke⟩
      · unfold put
        rw [e2]
      · unfold put
        rw [if_neg (by omega)]
    · rw [e1] at hcd hck ⊢
      obtain ⟨k1, k2⟩ := Tr.write lf d (i % 2 ^ d) h4 hb hck
      generalize wlf (sdv N (hhw N d (i % 2 ^ d) (hfb p true)) d (i % 2 ^ d)) d (i % 2 ^ d) lf d = x at *
      generalize wpr N (sdv N (hhw N d (i % 2 ^ d) (hfb p true)) d (i % 2 ^ d)) d (i % 2 ^ d) lf d = N1 at *
      simp only [if_true, Bool.not_true] at hcd ⊢
      have ke := Ext.put hcd
      have kj := hfb_jn (hfb p false) x
      refine ⟨⟨jn (hfb p false) x, by rw [look_putM, if_pos rfl], rfl, Tr.key d kj.1.symm (Tr.cong d (fun m hm => ?_) (Tr.ext (k2.trans ke) d h3)), Tr.key d kj.2.symm (Tr.cong d (fun m hm => ?_) (Tr.ext ke d k1))⟩, k2.trans ke⟩
      · unfold put
        rw [if_neg (by omega)]
      · unfold put
        show Wt.key (if m = i % 2 ^ d then lf else L (2 ^ d + m)) = Wt.key (if 2 ^ d + m = i then lf else L (2 ^ d + m))
        by_cases hm2 : m = i % 2 ^ d
        · rw [if_pos hm2, if_pos (by omega)]
        · rw [if_neg hm2, if_neg (by omega)]
section
variable {W y : World} {s t kb fb : Nat} {Ts Tt : Nat → Prop} {M N : List (Hx × Px)} {A B : List Hx} {met : Bool} {V : Value} {K : List Hx} {bx : List Bx}
theorem Gm.readHit (H : Gm W s t kb fb Ts Tt M A N B met V K bx y) {D I : Nat} {rt x : Hx} (hMN : Alike M N) (hn : A.length + 17 < 1073741824) (hD : D ≤ 16) (hI : I < 2 ^ D) (hhas : ∀ j, j < D → has N (hhw N D I rt j) = true) (hx : Wt.key (hhw N D I rt D) = Wt.key x) :
    Calls Tryd.prog 24 #[.pointer (some ⟨s, 0, none⟩), .int .i64 D, dv rt, .int .i64 I] y fun e w' => e = .returned (.tuple #[dv x, .nilIface]) ∧ ∃ Ts' A', Gm W s t kb fb Ts' Tt M A' N B met V K bx w' ∧ A'.length ≤ A.length + 17 := by
  have h := read_walk Ts s kb fb M A D I D (hhw N D I rt) y H.st H.tsl hn hD hI (Nat.le_refl _) (fun j _ y hy => hhw_step hMN D I rt j y hy) (fun j hj => (hMN.has _).trans (hhas j hj)) (.inl rfl)
  rw [hhw_zero] at h
  refine h.mono ?_
  rintro e w' ⟨x', E, he, T', hR⟩
  obtain ⟨rfl, rfl⟩ := hR.hit rfl
  rw [dv_key.2 hx] at he
  refine ⟨he, T', _, H.prog hR.st hR.tt (foot_of hR.kp), ?_⟩
  have := askN_len A (hhw N D I rt) (if D < D then D + 1 else D)
  rw [if_neg (Nat.lt_irrefl _)] at this ⊢
  omega
theorem Gm.writeHit (H : Gm W s t kb fb Ts Tt M A N B met V K bx y) {D I : Nat} {rt : Hx} (lf : Hx) (hMN : Alike M N) (hn : A.length + 17 < 1073741824) (hD : D ≤ 16) (hI : I < 2 ^ D) (hhas : ∀ j, j < D → has N (hhw N D I rt j) = true) :
    Calls Tryd.prog 26 #[.pointer (some ⟨s, 0, none⟩), .int .i64 D, dv rt, .int .i64 I, dv lf] y fun e w' => e = .returned (.tuple #[dv (wlf (sdv N (hhw N D I rt) D I) D I lf D), .nilIface]) ∧ ∃ Ts' M' A', Gm W s t kb fb Ts' Tt M' A' N B met V K bx w' ∧ Alike M' (wpr N (sdv N (hhw N D I rt) D I) D I lf D) ∧ A'.length ≤ A.length + 17 := by
  have h := write_walk Ts s kb fb M A D I (hhw N D I rt) lf y H.ktab H.st H.tsl hn hD hI (fun j _ y hy => hhw_step hMN D I rt j y hy) (fun j hj => (hMN.has _).trans (hhas j hj))
  have hf : ∀ l, l < D → pre (px M (hhw N D I rt) l) = pre (px N (hhw N D I rt) l) := fun l _ => px_alike hMN _ l
  rw [hhw_zero, wleaf_wlf _ N (hhw N D I rt) D I lf hf D (Nat.le_refl _)] at h
  refine h.mono ?_
  rintro e w' ⟨he, T', hR⟩
  refine ⟨he, T', _, _, H.prog hR.st hR.tt hR.kp, wpres_wpr _ M N (hhw N D I rt) D I lf hMN hf D (Nat.le_refl _), ?_⟩
  have := askN_len A (hhw N D I rt) D
  omega
theorem Gm.rwriteHit (H : Gm W s t kb fb Ts Tt M A N B met V K bx y) {D I : Nat} {rt : Hx} (lf : Hx) (hl : N.length + 17 < 1073741824) (hn : B.length + 17 < 1073741824) (hD : D ≤ 16) (hI : I < 2 ^ D) (hhas : ∀ j, j < D → has N (hhw N D I rt j) = true) :
    Calls Tryd.prog 25 #[.pointer (some ⟨t, 0, none⟩), .int .i64 D, dv rt, .int .i64 I, dv lf, .bool true] y fun e w' => (∃ v, e = .returned v) ∧ ∃ Tt' B', Gm W s t kb fb Ts Tt' M A (wpr N (sdv N (hhw N D I rt) D I) D I lf D) B' (wmt met N (sdv N (hhw N D I rt) D I) D I lf D) V K bx w' ∧ B'.length ≤ B.length + 17 := by
  have ho : OutW N D I rt lf (wlf (sdv N (hhw N D I rt) D I) D I lf D) 0 (-1) (fun A => askN A (hhw N D I rt) D) (wpr N (sdv N (hhw N D I rt) D I) D I lf D) (fun met => wmt met N (sdv N (hhw N D I rt) D I) D I lf D) :=
    .inr ⟨D, I, D, rfl, rfl, hD, hI, Nat.le_refl _, hhas, .inl rfl, fun _ => ⟨rfl, rfl, rfl, rfl, rfl, rfl⟩, fun h => absurd h (Nat.lt_irrefl _)⟩
  refine (H.rwrite ho hl hn).mono ?_
  rintro e w' ⟨z, he, T', h1, _⟩
  refine ⟨⟨_, he⟩, T', _, h1, ?_⟩
  have := askN_len B (hhw N D I rt) D
  show (askN B (hhw N D I rt) D).length ≤ _
  omega
theorem Gm.boxB {y0 : World} {bx0 : List Bx} (H : Gm W s t kb fb Ts Tt M A N B met V K bx y) (q T n : Nat) (g : Nat → Value) (h : IsTab y q T n g) (H0 : Gm W s t kb fb Ts Tt M A N B met V K bx0 y0) (hq : y0.heap.size ≤ q) : Gm W s t kb fb Ts Tt M A N B met V K (⟨q, T, n, g⟩ :: bx) y :=
  ⟨H.st, H.ro, H.row, H.ts, H.tt, H.dj, H.k1, H.k2, H.vs, fun b hb => by
    rcases List.mem_cons.1 hb with rfl | hb
    · exact ⟨h, H0.fresh q hq⟩
    · exact H.bx b hb, H.below, H.kt, H.et, H.lo⟩
/-- A box written in part. -/
theorem Gm.putAt {b : Bx} {g : Nat → Value} {p : Nat} {vs : List Value} (H : Gm W s t kb fb Ts Tt M A N B met V K (b :: bx) y) (hg : IsTab (y.setCells b.q p vs) b.q b.t b.n g) (hn : ∀ c, c ∈ bx → c.q ≠ b.q) : Gm W s t kb fb Ts Tt M A N B met V K (⟨b.q, b.t, b.n, g⟩ :: bx) (y.setCells b.q p vs) := by
  have h0 := H.bx b (List.mem_cons_self ..)
  have hk : Kept (fun k => k = b.q) y (y.setCells b.q p vs) := kept_setCells (S := fun k => k = b.q) rfl vs p y (Kept.refl _ _)
  have hW := H.below.size
  have hz := hk.size
  refine ⟨H.st.kept hk (fun j h1 h2 => h0.2.2.1 (h2 ▸ h1)) (fun h => h0.2.2.2.2.1 h.symm) (fun h => h0.2.2.2.2.2.1 h.symm), H.ro.kept hk fun j h1 h2 => h0.2.2.2.1 (h2 ▸ h1), hk.row H.row fun k e h => h0.2.2.2.2.2.2 (h ▸ e), fun j h => ⟨(H.ts j h).1, by have := (H.ts j h).2; omega⟩, fun j h => ⟨(H.tt j h).1, by have := (H.tt j h).2; omega⟩, H.dj, ⟨H.k1.1, by have := H.k1.2.1; omega, H.k1.2.2⟩, ⟨H.k2.1, by have := H.k2.2.1; omega, H.k2.2.2⟩, H.vs, fun c hc => ?_, H.below.trans (hk.below (by omega) fun k _ h => h ▸ h0.2.1), H.kt, H.et, H.lo⟩
  rcases List.mem_cons.1 hc with rfl | hc
  · exact ⟨hg, h0.2⟩
  · have h1 := H.bx c (List.mem_cons_of_mem _ hc)
    exact ⟨Wt.IsTab.kept h1.1 hk (hn c hc), h1.2⟩
theorem Gm.lt (H : Gm W s t kb fb Ts Tt M A N B met V K bx y) {b : Bx} (hb : b ∈ bx) : b.q < y.heap.size := (H.bx b hb).1.lt
/-- The two stores, with boxes made between them. -/
theorem Gm.start2 {y1 y4 y5 : World} (ht : Laid.KTab W) (hg : Et W) (h1 : IsSt y1 Ts s kb fb nw) (b1 : Below W.heap.size W y1) (h2 : ∀ j, Foot Ts kb fb j → W.heap.size ≤ j) (h3 : ∀ j, Ts j → j < y1.heap.size) (b2 : Below y1.heap.size y1 y4) (h4 : IsR y5 Tt t ⟨zs 16, []⟩ false) (h5 : ∀ j, Tt j → y4.heap.size ≤ j ∧ j < y5.heap.size) (b3 : Below y4.heap.size y4 y5)
    (hb : ∀ b, b ∈ bx → IsTab y5 b.q b.t b.n b.g ∧ y1.heap.size ≤ b.q ∧ b.q < y4.heap.size) : Gm W s t kb fb Ts Tt (zs 16) [] (zs 16) [] false (.slice none 0 0) [] bx y5 := by
  have z0 := b1.size
  have z1 := b2.size
  have z2 := b3.size
  have hk := h1.kin.lt
  refine ⟨(h1.below b2).below b3, h4, World.ownsRow_nil _ _ _ _, fun j h => ⟨h2 j (.inl h), by have := h3 j h; omega⟩, fun j h => ⟨by have := (h5 j h).1; omega, (h5 j h).2⟩, fun j h h' => by have := h3 j h; have := (h5 j h').1; omega, ⟨h2 kb (.inr (.inl rfl)), by omega, fun h => by have := (h5 kb h).1; omega⟩, ⟨h2 fb (.inr (.inr rfl)), by omega, fun h => by have := (h5 fb h).1; omega⟩, fun j e => (by cases e), fun b hm => ?_, bl (bl b1 b2) b3, ht, hg, lowB_le ht⟩
  obtain ⟨g1, g2, g3⟩ := hb b hm
  exact ⟨g1, by omega, fun h => by have := h3 _ h; omega, fun h => by have := (h5 _ h).1; omega, by omega, by omega, fun e => by cases e⟩
end
/-- The root that the program works out is the tree's. -/
theorem rootOf_tree {N : List (Hx × Px)} {D : Nat} {h : Hx} {f : Nat → Hx} (hD : D ≤ 16) (ht : Tr N D h f) : wrong D (2 ^ D) = 0 ∧ dv (rootOf D (2 ^ D) f) = dv h := by
  have hw : wrong (D : Int) (2 ^ D) = 0 := by
    unfold wrong
    have e : ((2 : Int) ^ (D : Int).toNat) = ((2 ^ D : Nat) : Int) := by rw [Int.toNat_natCast, Int.natCast_pow]; rfl
    first
    | (rw [if_neg (by omega), e, if_neg (by omega)])
    | (simp [e]; omega)
  refine ⟨hw, dv_key.2 ?_⟩
  unfold rootOf
  rw [if_pos hw, Int.toNat_natCast]
  have e : und (ext (2 ^ D) f) D 0 = und f D 0 := und_cong D 0 fun i h1 h2 => by unfold ext; rw [if_pos (by omega)]
  rw [e]
  exact ht.root.symm
theorem exec_allocH (ev : Operand → Value) (o : Oper) (y : World) (ho : o.op = .alloc 39) : (execOp ev o).run Tryd.prog y = .ok (.value (.pointer (some ⟨y.heap.size, 0, none⟩))) (y.alloc (.cells (tab 32 fun _ => bv 0#8) 39)) := by
  unfold execOp
  rw [ho]
  simp [Instr.alloc, go_sem, zeroHash, Result.andThen]
  rfl
theorem exec_buildH (ev : Operand → Value) (o : Oper) (y : World) (ho : o.op = .build 39 #[]) : (execOp ev o).run Tryd.prog y = .ok (.value (.agg (tab 32 fun i => bv (Mk.zero 0 i)))) y := by
  unfold execOp
  rw [ho]
  have h : (Instr.build 39 #[]).run Tryd.prog y = .ok (.agg (tab 32 fun i => bv (Mk.zero 0 i))) y := by kernel_rfl
  simp only [Array.map_empty]
  simp [h, Result.andThen]
theorem u64_mod8 (d : Int) : ∃ k : Nat, (IntKind.u64.wrap d).tmod 8 = (k : Int) ∧ k ≤ 7 := by
  have e : IntKind.u64.wrap d = d % 18446744073709551616 := IntKind.wrap_u64 d
  have h0 : 0 ≤ d % 18446744073709551616 := Int.emod_nonneg _ (by decide)
  refine ⟨((IntKind.u64.wrap d).tmod 8).toNat, ?_, ?_⟩
  · rw [e, Int.tmod_eq_emod_of_nonneg h0]; omega
  · rw [e, Int.tmod_eq_emod_of_nonneg h0]; omega
theorem u64_modn (d : Int) (m : Nat) (hm : 0 < m) : ∃ k : Nat, (IntKind.u64.wrap d).tmod (m : Int) = (k : Int) ∧ k < m := by
  have e : IntKind.u64.wrap d = d % 18446744073709551616 := IntKind.wrap_u64 d
  have h0 : 0 ≤ d % 18446744073709551616 := Int.emod_nonneg _ (by decide)
  have h1 := Int.emod_nonneg (d % 18446744073709551616) (show (m : Int) ≠ 0 by omega)
  have h2 := Int.emod_lt_of_pos (d % 18446744073709551616) (show (0 : Int) < m by omega)
  refine ⟨((IntKind.u64.wrap d).tmod m).toNat, ?_, ?_⟩
  · rw [e, Int.tmod_eq_emod_of_nonneg h0]; omega
  · rw [e, Int.tmod_eq_emod_of_nonneg h0]; omega
/-- The cells of a leaf and its place. -/
def pt (a : Int) (lf : Hx) : Nat → Value
  | 0 => .int .i64 a
  | j + 1 => bv (lf j)
theorem pt_one (a : Int) (lf : Hx) : (tab 33 (pt a lf)).all (·.oneCell') = true := tab_one fun i => by cases i <;> rfl
theorem undPut : Tryd.prog.underlying 67 = some (.struct (Tryd.prog.fieldsOf 67)) := by kernel_rfl
theorem infPut' : (Tryd.prog.info? 67).map (·.size) = some 33 := by kernel_rfl
theorem infPut (g : Nat → Value) : (Tryd.prog.info? 67).map (·.size) = some (tab 33 g).size := by rw [tab_size]; exact infPut'
theorem zeroPut (w : World) : (zeroValue 67).run Tryd.prog w = .ok (.agg (tab 33 (pt 0 fun _ => 0#8))) w := by kernel_rfl
theorem loadPut {w : World} {b o : Nat} {a : Int} {lf : Hx} (h0 : w.cell? ⟨b, o, none⟩ = some (.int .i64 a)) (h : ∀ j, j < 32 → w.cell? ⟨b, o + 1 + j, none⟩ = some (bv (lf j))) : (Instr.loadAt 67 (.pointer (some ⟨b, o, none⟩))).run Tryd.prog w = .ok (.agg (tab 33 (pt a lf))) w := by
  refine run_loadAt_mid w b o _ ((List.range 33).map (pt a lf)) _ (fun i v hv => ?_) undPut rfl (by rw [infPut']; rfl)
  have hi : i < 33 := by
    have := (List.getElem?_eq_some_iff.1 hv).1
    simpa using this
  have hv2 : v = pt a lf i := by
    rw [List.getElem?_map, List.getElem?_range hi] at hv
    simpa using hv.symm
  subst hv2
  cases i with
  | zero => exact h0
  | succ j => have := h j (by omega); rwa [show o + (j + 1) = o + 1 + j from by omega]
theorem loadLf {w : World} {b : Nat} {a : Int} {lf : Hx} {T : Nat} (h : IsTab w b T 33 (pt a lf)) : (Instr.loadAt 28 (.pointer (some ⟨b, 1, none⟩))).run Tryd.prog w = .ok (.agg (tab 32 fun i => bv (lf i))) w := by
  have h5 : At5 w b 1 1 fun _ => lf := fun k j hk hj => by
    obtain rfl : k = 0 := by omega
    have := h.cell (1 + j) (by omega)
    rw [show 1 + 32 * 0 + j = 1 + j from by omega, this, Nat.add_comm 1 j]
    rfl
  exact loadR h5 (k := 0) (by decide) (by decide)
theorem made_hc (n : Nat) : madeCells (dv fun _ => 0#8).cells (n * 32) = tab (32 * n) (hc fun _ => Mk.zero 0) := by
  have e : (dv fun _ => 0#8).cells = tab 32 fun _ => bv 0#8 := rfl
  rw [e]
  apply Array.ext
  · rw [size_madeCells, tab_size]; omega
  · intro j h1 h2
    have h3 : j % 32 < 32 := Nat.mod_lt _ (by decide)
    have h4 := tab_at (n := 32) (fun _ => bv 0#8) h3
    have h5 : (tab 32 fun _ => bv 0#8)[j % 32]! = bv 0#8 := by
      rw [Array.getElem!_eq_getD, Array.getD_eq_getD_getElem?, h4]
      rfl
    simp [madeCells, tab_size, h5]
    simp [tab, hc]
    rfl
theorem mkH (n : Nat) (hn : n ≤ 128) (w : World) : (Instr.makeSlice 56 (.int .i64 (n : Int)) (.int .i64 (n : Int))).run Tryd.prog w = .ok (.slice (some ⟨w.heap.size, 0, none⟩) n n) (w.alloc (.cells (tab (32 * n) (hc fun _ => Mk.zero 0)) 39)) := by
  obtain ⟨i, h1, h2, h3, h4⟩ := infHs
  have hr := run_make (P := Tryd.prog) w 56 39 i (dv fun _ => 0#8) undHs h1 h2 .i64 .i64 n n (by omega) (Int.le_refl _) (by rw [h4]; omega) (by omega)
  simp only [Int.toNat_natCast, h3] at hr
  rw [made_hc] at hr
  exact hr
theorem loadHc {w : World} {q T n i o : Nat} {f : Nat → Hx} (h : IsTab w q T (32 * n) (hc f)) (hi : i < n) (ho : o = 32 * i) : (Instr.loadAt 39 (.pointer (some ⟨q, o, none⟩))).run Tryd.prog w = .ok (.agg (tab 32 fun j => bv (f i j))) w :=
  loadH (at5_of h (Nat.le_refl _)) hi (by omega)
theorem lv_hc {w : World} {q T n : Nat} {f : Nat → Hx} (h : IsTab w q T (32 * n) (hc f)) : Lv w q T n f := ⟨32 * n, hc f, h, Nat.le_refl _, fun k j hk hj => by
  unfold hc
  rw [show (32 * k + j) / 32 = k from by omega, show (32 * k + j) % 32 = j from by omega]⟩
theorem isr_met {w : World} {T : Nat → Prop} {r : Nat} {S : Sto} {met : Bool} (h : IsR w T r S met) : w.cell? ⟨r, 3, none⟩ = some (.bool met) := by
  obtain ⟨_, _, _, h⟩ := h
  exact h.box.k3
theorem meas_nw {i k : Nat} (h : i + 1 ≤ k) : k - (intOf (.int .i64 ((i : Int) + 1))).toNat < k - (intOf (.int .i64 (i : Int))).toNat := by
  show k - (i + 1) < k - i
  omega
/-- What the loop keeps. -/
def Lt (W : World) (s t kb fb D q6 q10 q11 ql n2 : Nat) (zD : Hx) (n : Nat) (y : World) : Prop := ∃ Ts Tt M A N B, ∃ (rt od : Hx) (f : Nat → Hx), Gm W s t kb fb Ts Tt M A N B false (.slice none 0 0) [] [⟨q6, 39, 32, fun i => bv (rt i)⟩, ⟨q10, 39, 32, fun i => bv (od i)⟩, ⟨q11, 39, 32, fun i => bv (zD i)⟩, ⟨ql, 39, 32 * n2, hc f⟩] y ∧ Alike M N ∧ Tr N D rt f ∧ Tr N D zD (fun _ => Mk.zero 0) ∧ N.length ≤ 16 + 17 * n ∧ A.length ≤ 51 * n ∧ B.length ≤ 17 * n

set_option maxHeartbeats 16000000 in
set_option maxRecDepth 100000 in
theorem trees_in (AP : Option Addr) (len cap : Nat) (dI : Int) (w : World) (hlm : (len : Int) ≤ 9223372036854775807)
    (cells : ∀ i, i < len → ∃ c off, ∃ (a : Int) (lf : Hx), AP = some ⟨c, off, none⟩ ∧ w.cell? ⟨c, off + i * 33, none⟩ = some (.int .i64 a) ∧ ∀ j, j < 32 → w.cell? ⟨c, off + i * 33 + 1 + j, none⟩ = some (bv (lf j)))
    (hg : Et w) (ht : Laid.KTab w) :
    Calls Tryd.prog 5 #[.int .i64 dI, .slice AP len cap] w fun e w' => e = .returned (.bool true) ∧ Below w.heap.size w w' := by
  have HC := Lib.hid cells
  have HG := Lib.hid (And.intro hg ht)
  clear cells hg ht
  obtain ⟨D, hD, hDb⟩ := u64_mod8 dI
  have HD := Lib.hid hDb
  have hDi : (D : Int) ≤ 7 := by omega
  have hwD : IntKind.i64.wrap (D : Int) = (D : Int) := IntWalk.i64_in _ (by omega)
  have HW0 := Lib.hid (New_walk w HG.out.2 (lowB_le HG.out.2))
  go_enter Tryd.func5, Tryd.ntmps5
  go_upto_region 2 with (first
    | (go_at_call 13; (with_reducible refine HW0.out.mono ?_); rintro e y1 ⟨s, Ts, kb, fb, he, h1, h2, h3, h4, h5⟩; obtain rfl : e = _ := he; have HS := Lib.hid (And.intro h1 (And.intro h2 (And.intro h3 (And.intro h4 h5)))); clear h1 h2 h3 h4 h5 HW0))
  have HF := Lib.hid (fixed06_walk y1 (HG.out.1.next HS.out.2.1) HS.out.2.2.2.2)
  go_upto_region 5 with (first
    | (go_at_call 15; (with_reducible refine HF.out.mono ?_); rintro e y2 ⟨he, hb⟩; obtain rfl : e = _ := he; have HB2 := Lib.hid hb; clear hb HF))
  clear hD hDi hwD
  have z3 := zeroHash
  generalize hz : (tab 32 fun _ => bv 0#8) = zh at *
  have HZH := Lib.hid hz
  clear hz
  have hz0 := zero_ok D (Nat.le_trans HD.out (by decide)) y2 (ktab_below HS.out.2.2.2.2 HB2.out)
  have HTZ := Lib.hid (Tr.zero D (Nat.le_trans HD.out (by decide)))
  generalize Mk.zero D = zD at *
  unfold dv at hz0
  have HZR := Lib.hid hz0
  clear hz0
  go_upto_region 8 with (first
    | (go_at_call 31; (with_reducible refine HZR.out.mono ?_); rintro e y3 ⟨he, hb⟩; obtain rfl : e = _ := he; have HB3 := Lib.hid hb; clear HZR hb)
    | ((with_reducible refine wpList_store_row (P := Tryd.prog) (w := y3.alloc (.cells zh 39)) ?_ 39 (.tmp 6) (.tmp 40) ?_ y3.heap.size (tab 32 fun i => bv (zD i)) ?_ ?_ 39 zh (heap_alloc_last y3 _) (infH _) ?_ (one_bv _ _) ?_); (· exact rfl); (· exact rfl); (· exact rfl); (· exact rfl); (· rw [← HZH.out, tab_size, tab_size]); rw [World.setRow_alloc_new]; simp only [Act.put]))
  have HQ6 : Hid (IsTab (y3.alloc (.cells (tab 32 fun i => bv (zD i)) 39)) y3.heap.size 39 32 (fun i => bv (zD i)) ∧ Below y1.heap.size y1 (y3.alloc (.cells (tab 32 fun i => bv (zD i)) 39)) ∧ y1.heap.size ≤ y3.heap.size ∧ y3.heap.size < (y3.alloc (.cells (tab 32 fun i => bv (zD i)) 39)).heap.size) := Lib.hid ⟨IsTab.new _ _ _ _, bl (bl HB2.out HB3.out) (ba _ _), (bl HB2.out HB3.out).size, by simp⟩
  clear HB2 HB3
  generalize y3.alloc (.cells (tab 32 fun i => bv (zD i)) 39) = y4 at *
  generalize y3.heap.size = q6 at *
  obtain ⟨n2, hn2⟩ : ∃ n, 2 ^ D = n := ⟨_, rfl⟩
  have hn2b : 0 < n2 ∧ n2 ≤ 128 := by
    have := Nat.pow_le_pow_right (n := 2) (by decide) HD.out
    have h0 : 0 < 2 ^ D := Nat.pow_pos (by decide)
    omega
  have hmk := mkH n2 hn2b.2 y4
  have hsh : wrap64 ((2 : Int) ^ D) = (n2 : Int) := by
    rw [show ((2 : Int) ^ D) = ((2 ^ D : Nat) : Int) from (Int.natCast_pow 2 D).symm, hn2]
    unfold wrap64
    omega
  have HN2 : Hid (2 ^ D = n2 ∧ 0 < n2 ∧ n2 ≤ 128) := Lib.hid ⟨hn2, hn2b⟩
  clear hn2 hn2b
  have hd0 : (0 : Int) ≤ (D : Int) := by omega
  go_upto_region 9 with (fail)
  clear hmk hsh hd0
  have HQL : Hid (IsTab (y4.alloc (.cells (tab (32 * n2) (hc fun _ => Mk.zero 0)) 39)) y4.heap.size 39 (32 * n2) (hc fun _ => Mk.zero 0) ∧ IsTab (y4.alloc (.cells (tab (32 * n2) (hc fun _ => Mk.zero 0)) 39)) q6 39 32 (fun i => bv (zD i)) ∧ Below y1.heap.size y1 (y4.alloc (.cells (tab (32 * n2) (hc fun _ => Mk.zero 0)) 39)) ∧ (y1.heap.size ≤ q6 ∧ y1.heap.size ≤ y4.heap.size ∧ q6 < y4.heap.size) ∧ (y4.alloc (.cells (tab (32 * n2) (hc fun _ => Mk.zero 0)) 39)).heap.size = y4.heap.size + 1) := Lib.hid ⟨IsTab.new _ _ _ _, HQ6.out.1.alloc _, bl HQ6.out.2.1 (ba _ _), ⟨HQ6.out.2.2.1, HQ6.out.2.1.size, HQ6.out.2.2.2⟩, by simp⟩
  clear HQ6
  generalize y4.alloc (.cells (tab (32 * n2) (hc fun _ => Mk.zero 0)) 39) = y5 at *
  generalize y4.heap.size = ql at *
  have HR := Lib.hid (rnew_walk y5)
  go_upto_region 10 with (first
    | (go_at_call 14; (with_reducible refine HR.out.mono ?_); rintro e y6 ⟨t, he, Tt, h1, h2, h3⟩; obtain rfl : e = _ := he; have H0 := Lib.hid (Gm.start2 (bx := [⟨q6, 39, 32, fun i => bv (zD i)⟩, ⟨ql, 39, 32 * n2, hc fun _ => Mk.zero 0⟩]) HG.out.2 HG.out.1 HS.out.1 HS.out.2.1 HS.out.2.2.1 HS.out.2.2.2.1 HQL.out.2.2.1 h1 h2 h3 (fun b hb => by
        rcases List.mem_cons.1 hb with rfl | hb
        · exact ⟨HQL.out.2.1.below h3, HQL.out.2.2.2.1.1, by have := HQL.out.2.2.2; show q6 < _; omega⟩
        rcases List.mem_cons.1 hb with rfl | hb
        · exact ⟨HQL.out.1.below h3, HQL.out.2.2.2.1.2.1, by have := HQL.out.2.2.2; show ql < _; omega⟩
        · cases hb)); clear HR h1 h2 h3))
  have HNE : Hid (q6 ≠ ql) := Lib.hid (by have := HQL.out.2.2.2.1; omega)
  clear HS HQL
  have HBD := Lib.hid H0.out.drew
  refine wp_region_og (fun z : World => Below y6.drew.heap.size y6.drew z) (.take 0 (.take 1 (.two 2 (.one 3 (.one 4 (.one 5 .done))) 3 (.one 2 (.one 4 (.one 5 .done)))))) (by kernel_rfl) (by kernel_rfl) (Below.refl _ _) ?_
  clear H0
  generalize y6.drew = y7 at *
  refine og_ld (some 48) 39 (.tmp 6) (.pointer (some ⟨q6, 0, none⟩)) (.agg (tab 32 fun i => bv (zD i))) rfl rfl (by go_simp) rfl rfl (fun y hy => loadHb ((HBD.out.bx _ (List.mem_cons_self ..)).1.below hy)) ?_
  simp only [Act.put, pS]
  refine og_ld (some 49) 39 (.tmp 6) (.pointer (some ⟨q6, 0, none⟩)) (.agg (tab 32 fun i => bv (zD i))) rfl rfl (by go_simp) rfl rfl (fun y hy => loadHb ((HBD.out.bx _ (List.mem_cons_self ..)).1.below hy)) ?_
  simp only [Act.put, pS]
  rw [← HZH.out] at z3
  clear z3
  refine og_alloc2 (.cells (tab 32 fun _ => bv 0#8) 39) 10 11 (by decide) rfl rfl rfl rfl rfl rfl (fun ev y => exec_allocH ev _ y rfl) (fun ev y => exec_allocH ev _ y rfl) (ba _ _) (bl (ba _ _) (ba _ _)) ?_
  intro q10 q11 hq
  simp only [Act.put, pS]
  obtain ⟨r1, r2, rb, rq1, rq2, rn, rz1, rz2⟩ := two_rows y7 39 q10 q11 (fun _ => bv 0#8) (fun i => bv (zD i)) (fun i => bv (zD i)) hq _ rfl
  have HZ1 := Lib.hid rz1
  have HZ2 := Lib.hid rz2
  have HRR := Lib.hid (And.intro r1 (And.intro r2 (And.intro rb (And.intro rq1 (And.intro rq2 rn)))))
  have HBS : Hid (Below y7.heap.size y7 (((y7.alloc (.cells (tab 32 fun _ => bv 0#8) 39)).alloc (.cells (tab 32 fun _ => bv 0#8) 39)).setRow q10 (tab 32 fun i => bv (zD i)))) := Lib.hid (below_setRow (bl (ba _ _) (ba _ _)) rq1 _)
  clear r1 r2 rb rq1 rq2 rz1 rz2 hq rn
  generalize (y7.alloc (.cells (tab 32 fun _ => bv 0#8) 39)).alloc (.cells (tab 32 fun _ => bv 0#8) 39) = y8 at *
  refine og_f rfl (by go_simp) fun K' hK' => ?_
  refine wp_store_row 39 (.tmp 10) (.tmp 48) rfl q10 (tab 32 fun i => bv (zD i)) rfl rfl 39 (tab 32 fun _ => bv 0#8) HZ1.out (infH _) (by simp only [tab_size]) (one_bv _ _) ?_
  refine hK' _ _ HBS.out ?_
  clear hK' K'
  simp only [Act.put, pS]
  refine og_f rfl (by go_simp) fun K' hK' => ?_
  refine wp_store_row 39 (.tmp 11) (.tmp 49) rfl q11 (tab 32 fun i => bv (zD i)) rfl rfl 39 (tab 32 fun _ => bv 0#8) HZ2.out (infH _) (by simp only [tab_size]) (one_bv _ _) ?_
  refine hK' _ _ HRR.out.2.2.1 ?_
  clear hK' K'
  simp only [Act.put, List.getElem_toArray, List.getElem_cons_succ, List.getElem_cons_zero]
  refine og_done (NoPanic.normal ?_)
  have HL0 : Hid (Lt w s t kb fb D q6 q10 q11 ql n2 zD 0 ((y8.setRow q10 (tab 32 fun i => bv (zD i))).setRow q11 (tab 32 fun i => bv (zD i)))) := Lib.hid ⟨Ts, Tt, zs 16, [], zs 16, [], zD, zD, _, (((HBD.out.next HRR.out.2.2.1).boxB _ _ _ _ HRR.out.1 HBD.out HRR.out.2.2.2.1).boxB _ _ _ _ HRR.out.2.1 HBD.out HRR.out.2.2.2.2.1).sub (fun b hb => by
    rcases List.mem_cons.1 hb with rfl | hb
    · exact (List.mem_cons_of_mem _ (List.mem_cons_of_mem _ (List.mem_cons_self ..)))
    rcases List.mem_cons.1 hb with rfl | hb
    · exact (List.mem_cons_of_mem _ (List.mem_cons_self ..))
    rcases List.mem_cons.1 hb with rfl | hb
    · exact (List.mem_cons_self ..)
    rcases List.mem_cons.1 hb with rfl | hb
    · exact (List.mem_cons_of_mem _ (List.mem_cons_of_mem _ (List.mem_cons_of_mem _ (List.mem_cons_self ..))))
    · cases hb), Alike.refl _, HTZ.out, HTZ.out, by rw [zs_len]; omega, Nat.zero_le _, Nat.zero_le _⟩
  have HNQ : Hid (q6 ≠ ql ∧ q6 ≠ q10 ∧ q6 ≠ q11 ∧ ql ≠ q10 ∧ ql ≠ q11 ∧ q10 ≠ q11) := Lib.hid (by
    have a1 := HRR.out.2.2.2
    have a2 := HBD.out.lt (List.mem_cons_self ..)
    have a3 := HBD.out.lt (List.mem_cons_of_mem _ (List.mem_cons_self ..))
    have a4 := HNE.out
    refine ⟨a4, ?_, ?_, ?_, ?_, a1.2.2⟩ <;> (simp only at a2 a3; omega))
  clear HBD HZ1 HZ2 HRR HBS HNE
  generalize (y8.setRow q10 (tab 32 fun i => bv (zD i))).setRow q11 (tab 32 fun i => bv (zD i)) = y9 at *
  go_upto_block 0 with (fail)
  go_cut [8] (fun v z => v = .slice (some ⟨ql, 0, none⟩) n2 n2 ∧ ∃ n, n ≤ 30 ∧ (Lt w s t kb fb D q6 q10 q11 ql n2 zD n z))
  case first =>
    go_wp2_with (fail)
    go_loopw [52] (fun i z => ∃ n : Nat, n ≤ len ∧ n ≤ 30 ∧ i = .int .i64 n ∧ Hid (Lt w s t kb fb D q6 q10 q11 ql n2 zD n z)) (fun i _ => len - (intOf i).toNat)
    case atStart => exact ⟨0, Nat.zero_le _, Nat.zero_le _, rfl, HL0⟩
    case round =>
      obtain ⟨n, hn, h30, rfl, hp⟩ := hrel
      obtain ⟨Ts, Tt, M, A, N, B, rt, od, f, hG, hMN, hT1, hT2, hNl, hAl, hBl⟩ := hp.out
      have HGm := Lib.hid hG
      have HMN := Lib.hid hMN
      have HT := Lib.hid (And.intro hT1 hT2)
      have HLL : Hid (N.length ≤ 16 + 17 * n ∧ A.length ≤ 51 * n ∧ B.length ≤ 17 * n ∧ n ≤ 30) := Lib.hid ⟨hNl, hAl, hBl, h30⟩
      clear hG hMN hT1 hT2 hNl hAl hBl hp HL0
      by_cases hlt : (n : Int) < (len : Int)
      · have HLT : Hid (n < len) := Lib.hid (by omega)
        have z3 := zeroHash
        generalize hz : (tab 32 fun _ => bv 0#8) = zh at *
        have HZH := Lib.hid hz
        clear hz
        have z5 := zeroPut
        generalize hz : (tab 33 (pt 0 fun _ => 0#8)) = zp at *
        have HZP := Lib.hid hz
        clear hz
        obtain ⟨c, off, a, lf, rfl, d0, d1⟩ := HC.out n (by omega)
        have HLP := Lib.hid (loadPut (w := wr) (b := c) (o := off + n * 33) (a := a) (lf := lf) ((HGm.out.below.cell (p := ⟨c, off + n * 33, none⟩) (inHeap d0)).trans d0) fun j hj => (HGm.out.below.cell (p := ⟨c, off + n * 33 + 1 + j, none⟩) (inHeap (d1 j hj))).trans (d1 j hj))
        clear d0 d1
        go_upto_region 14 with (first
          | ((with_reducible refine wpList_loadE (P := Tryd.prog) (w := wr) (ty := 67) (x := .tmp 55) (p := .pointer (some ⟨c, off + n * 33, none⟩)) (v := .agg (tab 33 (pt a lf))) ?_ ?_ ?_ HLP.out ?_); (· exact rfl); (· exact rfl); (· exact rfl))
          | ((with_reducible refine wpList_store_row (P := Tryd.prog) (w := wr.alloc (.cells zp 67)) ?_ 67 (.tmp 13) (.tmp 56) ?_ wr.heap.size (tab 33 (pt a lf)) ?_ ?_ 67 zp (heap_alloc_last wr _) (infPut _) ?_ (pt_one _ _) ?_); (· exact rfl); (· exact rfl); (· exact rfl); (· exact rfl); (· rw [← HZP.out, tab_size, tab_size]); rw [World.setRow_alloc_new]; simp only [Act.put]))
        have HB0 := Lib.hid (HGm.out.alloc 67 33 (pt a lf))
        have HQ13 : Hid (q6 < wr.heap.size ∧ q10 < wr.heap.size ∧ q11 < wr.heap.size ∧ ql < wr.heap.size) := Lib.hid ⟨HGm.out.lt (List.mem_cons_self ..), HGm.out.lt (List.mem_cons_of_mem _ (List.mem_cons_self ..)), HGm.out.lt (List.mem_cons_of_mem _ (List.mem_cons_of_mem _ (List.mem_cons_self ..))), HGm.out.lt (List.mem_cons_of_mem _ (List.mem_cons_of_mem _ (List.mem_cons_of_mem _ (List.mem_cons_self ..))))⟩
        clear HGm HLP
        generalize wr.alloc (.cells (tab 33 (pt a lf)) 67) = y0 at *
        generalize wr.heap.size = q13 at *
        by_cases h9 : (30 : Int) ≤ (n : Int)
        · go_wp2_with (fail)
          go_meet
          case rel => exact ⟨rfl, n, by have := HLL.out; omega, Ts, Tt, M, A, N, B, rt, od, f, HB0.out.sub (fun b hb => List.mem_cons_of_mem _ hb), HMN.out, HT.out.1, HT.out.2, HLL.out.1, HLL.out.2.1, HLL.out.2.2.1⟩
        · have HN9 : Hid (n < 30) := Lib.hid (by omega)
          obtain ⟨I, hat, hIb⟩ := u64_modn a n2 HN2.out.2.1
          have HI : Hid (I < n2 ∧ I < 2 ^ D) := Lib.hid ⟨hIb, by rw [HN2.out.1]; exact hIb⟩
          have hw2 : IntKind.u64.wrap (n2 : Int) = (n2 : Int) := IntWalk.u64_in _ (by have := HN2.out; omega)
          have hn0 : ¬ n2 = 0 := by have := HN2.out; omega
          have hwI : IntKind.u64.wrap (I : Int) = (I : Int) := IntWalk.u64_in _ (by have := HN2.out; have := HI.out; omega)
          have hwJ : IntKind.i64.wrap (I : Int) = (I : Int) := IntWalk.i64_in _ (by have := HN2.out; have := HI.out; omega)
          have e0 : y0.cell? ⟨q13, 0, none⟩ = some (.int .i64 a) := ((HB0.out.bx _ (List.mem_cons_self ..)).1).cell 0 (by decide : (0 : Nat) < 33)
          clear hIb
          go_upto_region 16 with (fail)
          clear hat hw2 hn0 hwI hwJ e0 h9
          have hr := Tr.read D I HT.out.1 HI.out.2
          have HHAS := Lib.hid hr.1
          have hA := HB0.out.writeHit lf HMN.out (by have := HLL.out; omega) (Nat.le_trans HD.out (by decide)) HI.out.2 hr.1
          have hQ := fun (y : World) (Ts1 : Nat → Prop) (M1 : List (Hx × Px)) (A1 : List Hx) (bs : List Bx) (h : Gm w s t kb fb Ts1 Tt M1 A1 N B false (.slice none 0 0) [] bs y) => h.rwriteHit lf (by have := HLL.out; omega) (by have := HLL.out; omega) (Nat.le_trans HD.out (by decide)) HI.out.2 HHAS.out
          obtain ⟨X, hX⟩ : ∃ x, wlf (sdv N (hhw N D I rt) D I) D I lf D = x := ⟨_, rfl⟩
          obtain ⟨N1, hN1⟩ : ∃ x, wpr N (sdv N (hhw N D I rt) D I) D I lf D = x := ⟨_, rfl⟩
          obtain ⟨mt, hmt⟩ : ∃ x, wmt false N (sdv N (hhw N D I rt) D I) D I lf D = x := ⟨_, rfl⟩
          have HTW : Hid (mt = false → Tr N1 D X (put f I lf) ∧ Ext N N1) := Lib.hid (fun e => by
            have k := Tr.write lf D I HT.out.1 HI.out.2 (wmt_no D (hmt.trans e)).2
            rw [hX, hN1] at k
            exact k)
          have HN1L : Hid (N1.length ≤ N.length + 17) := Lib.hid (by
            have h1 := wpr_len N (sdv N (hhw N D I rt) D I) D I lf D
            have h2 := HD.out
            rw [hN1] at h1
            omega)
          rw [hX, hN1] at hA
          rw [hN1, hmt] at hQ
          unfold dv at hA hQ
          have HA := Lib.hid hA
          have HQ := Lib.hid hQ
          have HLf := Lib.hid (loadLf ((HB0.out.bx _ (List.mem_cons_self ..)).1))
          have HL6 := Lib.hid (loadHb ((HB0.out.bx _ (List.mem_cons_of_mem _ (List.mem_cons_self ..))).1))
          clear hA hQ hr hX hN1 hmt
          go_upto_region 19 with (first
            | ((with_reducible refine wpList_loadE (P := Tryd.prog) (w := y0) (ty := 39) (x := .tmp 6) (p := .pointer (some ⟨q6, 0, none⟩)) (v := .agg (tab 32 fun i => bv (rt i))) ?_ ?_ ?_ HL6.out ?_); (· exact rfl); (· exact rfl); (· exact rfl))
            | ((with_reducible refine wpList_loadE (P := Tryd.prog) (w := y0) (ty := 28) (x := .tmp 72) (p := .pointer (some ⟨q13, 1, none⟩)) (v := .agg (tab 32 fun i => bv (lf i))) ?_ ?_ ?_ HLf.out ?_); (· exact rfl); (· exact rfl); (· exact rfl))
            | (go_at_call 26; (with_reducible refine HA.out.mono ?_); rintro e y1 ⟨he, Ts1, M1, A1, h1, h2, h3⟩; obtain rfl : e = _ := he; have HB1 := Lib.hid h1; have HMN1 := Lib.hid h2; have HA1 := Lib.hid h3; clear HA h1 h2 h3)
            | ((with_reducible refine wpList_store_row (P := Tryd.prog) (w := y1.alloc (.cells zh 39)) ?_ 39 (.tmp 15) (.tmp 75) ?_ y1.heap.size (tab 32 fun i => bv (X i)) ?_ ?_ 39 zh (heap_alloc_last y1 _) (infH _) ?_ (one_bv _ _) ?_); (· exact rfl); (· exact rfl); (· exact rfl); (· exact rfl); (· rw [← HZH.out, tab_size, tab_size]); rw [World.setRow_alloc_new]; simp only [Act.put]))
          have HQ15 : Hid (q13 < y1.heap.size) := Lib.hid (HB1.out.lt (List.mem_cons_self ..))
          clear HB0 HL6 HLf
          have HB2 := Lib.hid (HB1.out.alloc 39 32 (fun i => bv (X i)))
          clear HB1
          generalize y1.alloc (.cells (tab 32 fun i => bv (X i)) 39) = y2 at *
          generalize y1.heap.size = q15 at *
          have HQ2 := Lib.hid (HQ.out _ _ _ _ _ HB2.out)
          have HLf := Lib.hid (loadLf ((HB2.out.bx _ (List.mem_cons_of_mem _ (List.mem_cons_self ..))).1))
          have HL6 := Lib.hid (loadHb ((HB2.out.bx _ (List.mem_cons_of_mem _ (List.mem_cons_of_mem _ (List.mem_cons_self ..)))).1))
          clear HQ
          go_upto_region 20 with (first
            | ((with_reducible refine wpList_loadE (P := Tryd.prog) (w := y2) (ty := 39) (x := .tmp 6) (p := .pointer (some ⟨q6, 0, none⟩)) (v := .agg (tab 32 fun i => bv (rt i))) ?_ ?_ ?_ HL6.out ?_); (· exact rfl); (· exact rfl); (· exact rfl))
            | ((with_reducible refine wpList_loadE (P := Tryd.prog) (w := y2) (ty := 28) (x := .tmp 83) (p := .pointer (some ⟨q13, 1, none⟩)) (v := .agg (tab 32 fun i => bv (lf i))) ?_ ?_ ?_ HLf.out ?_); (· exact rfl); (· exact rfl); (· exact rfl))
            | (go_at_call 25; (with_reducible refine HQ2.out.mono ?_); rintro e y3 ⟨⟨v, he⟩, Tt1, B1, h1, h2⟩; obtain rfl : e = _ := he; have HB3 := Lib.hid h1; have HB1L := Lib.hid h2; clear HQ2 h1 h2))
          clear HB2 HLf HL6
          have k3 := isr_met HB3.out.ro
          by_cases hm : mt = true
          · as_aux_lemma =>
              subst hm
              go_wp2_with (fail)
              go_ret
              exact ⟨rfl, HB3.out.below⟩
          · as_aux_lemma =>
              have hm2 : mt = false := by simpa using hm
              subst hm2
              have HTR := Lib.hid (HTW.out rfl)
              clear HTW hm
              go_upto_region 22 with (fail)
              clear k3
              have HBD := Lib.hid HB3.out.drew
              refine wp_region_oz (fun z : World => IsTab z q6 39 32 (fun i => bv (rt i)) ∧ IsTab z q15 39 32 (fun i => bv (X i))) 3 (.take 0 (.take 1 (.one 2 (.one 3 .done)))) (by kernel_rfl) (by kernel_rfl) ⟨(HBD.out.bx _ (List.mem_cons_of_mem _ (List.mem_cons_of_mem _ (List.mem_cons_self ..)))).1, (HBD.out.bx _ (List.mem_cons_self ..)).1⟩ ?_
              generalize y3.drew = y4 at *
              clear HB3
              refine oz_ld (some 90) 39 (.tmp 6) (.pointer (some ⟨q6, 0, none⟩)) (.agg (tab 32 fun i => bv (rt i))) rfl rfl (by go_simp) rfl rfl (fun y hy => loadHb hy.1) ?_
              simp only [Act.put, pS]
              refine oz_ld (some 91) 39 (.tmp 15) (.pointer (some ⟨q15, 0, none⟩)) (.agg (tab 32 fun i => bv (X i))) rfl rfl (by go_simp) rfl rfl (fun y hy => loadHb hy.2) ?_
              simp only [Act.put, pS]
              refine oz_f rfl (by go_simp) fun K' hK' => ?_
              refine wp_store_row 39 (.tmp 10) (.tmp 90) rfl q10 (tab 32 fun i => bv (rt i)) rfl rfl 39 (tab 32 fun i => bv (od i)) ((HBD.out.bx _ (List.mem_cons_of_mem _ (List.mem_cons_of_mem _ (List.mem_cons_of_mem _ (List.mem_cons_self ..))))).1) (infH _) (by simp only [tab_size]) (one_bv _ _) ?_
              refine hK' _ _ ⟨IsTab.rowOther ((HBD.out.bx _ (List.mem_cons_of_mem _ (List.mem_cons_of_mem _ (List.mem_cons_self ..)))).1) (by have := HNQ.out; omega), IsTab.rowOther ((HBD.out.bx _ (List.mem_cons_self ..)).1) (by have := HQ13.out; have := HQ15.out; omega)⟩ ?_
              clear hK' K'
              try simp only [Act.put, pS]
              have HBE := Lib.hid ((HBD.out.sub (bx' := [⟨q10, 39, 32, fun i => bv (od i)⟩, ⟨q6, 39, 32, fun i => bv (rt i)⟩, ⟨q15, 39, 32, fun i => bv (X i)⟩, ⟨q13, 67, 33, pt a lf⟩, ⟨q11, 39, 32, fun i => bv (zD i)⟩, ⟨ql, 39, 32 * n2, hc f⟩]) (fun b hb => by
                rcases List.mem_cons.1 hb with rfl | hb
                · exact (List.mem_cons_of_mem _ (List.mem_cons_of_mem _ (List.mem_cons_of_mem _ (List.mem_cons_self ..))))
                rcases List.mem_cons.1 hb with rfl | hb
                · exact (List.mem_cons_of_mem _ (List.mem_cons_of_mem _ (List.mem_cons_self ..)))
                rcases List.mem_cons.1 hb with rfl | hb
                · exact (List.mem_cons_self ..)
                rcases List.mem_cons.1 hb with rfl | hb
                · exact (List.mem_cons_of_mem _ (List.mem_cons_self ..))
                rcases List.mem_cons.1 hb with rfl | hb
                · exact (List.mem_cons_of_mem _ (List.mem_cons_of_mem _ (List.mem_cons_of_mem _ (List.mem_cons_of_mem _ (List.mem_cons_self ..)))))
                rcases List.mem_cons.1 hb with rfl | hb
                · exact (List.mem_cons_of_mem _ (List.mem_cons_of_mem _ (List.mem_cons_of_mem _ (List.mem_cons_of_mem _ (List.mem_cons_of_mem _ (List.mem_cons_self ..))))))
                · cases hb)).put (g := fun i => bv (rt i)) (fun c hc => by
                have a1 := HNQ.out
                have a2 := HQ13.out
                have a3 := HQ15.out
                simp only [List.mem_cons, List.not_mem_nil, or_false] at hc
                rcases hc with rfl | rfl | rfl | rfl | rfl <;> (simp only; omega)))
              clear HBD
              generalize y4.setRow q10 (tab 32 fun i => bv (rt i)) = y5 at *
              refine oz_z rfl (by go_simp) fun K' hK' => ?_
              refine wp_store_row 39 (.tmp 6) (.tmp 91) rfl q6 (tab 32 fun i => bv (X i)) rfl rfl 39 (tab 32 fun i => bv (rt i)) ((HBE.out.bx _ (List.mem_cons_of_mem _ (List.mem_cons_self ..))).1) (infH _) (by simp only [tab_size]) (one_bv _ _) ?_
              refine hK' _ _ ?_
              clear hK' K'
              simp only [Act.put, List.getElem_toArray, List.getElem_cons_succ, List.getElem_cons_zero]
              refine oz_done (NoPanic.normal ?_)
              have HB5 := Lib.hid ((HBE.out.sub (bx' := [⟨q6, 39, 32, fun i => bv (rt i)⟩, ⟨q10, 39, 32, fun i => bv (rt i)⟩, ⟨q13, 67, 33, pt a lf⟩, ⟨q11, 39, 32, fun i => bv (zD i)⟩, ⟨ql, 39, 32 * n2, hc f⟩]) (fun b hb => by
                rcases List.mem_cons.1 hb with rfl | hb
                · exact (List.mem_cons_of_mem _ (List.mem_cons_self ..))
                rcases List.mem_cons.1 hb with rfl | hb
                · exact (List.mem_cons_self ..)
                rcases List.mem_cons.1 hb with rfl | hb
                · exact (List.mem_cons_of_mem _ (List.mem_cons_of_mem _ (List.mem_cons_of_mem _ (List.mem_cons_self ..))))
                rcases List.mem_cons.1 hb with rfl | hb
                · exact (List.mem_cons_of_mem _ (List.mem_cons_of_mem _ (List.mem_cons_of_mem _ (List.mem_cons_of_mem _ (List.mem_cons_self ..)))))
                rcases List.mem_cons.1 hb with rfl | hb
                · exact (List.mem_cons_of_mem _ (List.mem_cons_of_mem _ (List.mem_cons_of_mem _ (List.mem_cons_of_mem _ (List.mem_cons_of_mem _ (List.mem_cons_self ..))))))
                · cases hb)).put (g := fun i => bv (X i)) (fun c hc => by
                have a1 := HNQ.out
                have a2 := HQ13.out
                simp only [List.mem_cons, List.not_mem_nil, or_false] at hc
                rcases hc with rfl | rfl | rfl | rfl <;> (simp only; omega)))
              clear HBE
              generalize y5.setRow q6 (tab 32 fun i => bv (X i)) = y6 at *
              have hr := Tr.read D I (Tr.ext HTR.out.2 D HT.out.1) HI.out.2
              have hA := HB5.out.readHit (x := f I) HMN1.out (by have := HLL.out; have := HA1.out; omega) (Nat.le_trans HD.out (by decide)) HI.out.2 hr.1 hr.2
              obtain ⟨fI, hfI⟩ : ∃ x, f I = x := ⟨_, rfl⟩
              rw [hfI] at hA
              unfold dv at hA
              have HA := Lib.hid hA
              have HFI := Lib.hid hfI
              have HL10 := Lib.hid (loadHb ((HB5.out.bx _ (List.mem_cons_of_mem _ (List.mem_cons_self ..))).1))
              clear hA hr hfI
              go_upto_region 24 with (first
                | ((with_reducible refine wpList_loadE (P := Tryd.prog) (w := y6) (ty := 39) (x := .tmp 10) (p := .pointer (some ⟨q10, 0, none⟩)) (v := .agg (tab 32 fun i => bv (rt i))) ?_ ?_ ?_ HL10.out ?_); (· exact rfl); (· exact rfl); (· exact rfl))
                | (go_at_call 24; (with_reducible refine HA.out.mono ?_); rintro e y7 ⟨he, Ts2, A2, h1, h2⟩; obtain rfl : e = _ := he; have HB6 := Lib.hid h1; have HA2 := Lib.hid h2; clear HA h1 h2)
                | ((with_reducible refine wpList_store_row (P := Tryd.prog) (w := y7.alloc (.cells zh 39)) ?_ 39 (.tmp 17) (.tmp 98) ?_ y7.heap.size (tab 32 fun i => bv (fI i)) ?_ ?_ 39 zh (heap_alloc_last y7 _) (infH _) ?_ (one_bv _ _) ?_); (· exact rfl); (· exact rfl); (· exact rfl); (· exact rfl); (· rw [← HZH.out, tab_size, tab_size]); rw [World.setRow_alloc_new]; simp only [Act.put]))
              clear HB5 HL10
              have HB7 := Lib.hid (HB6.out.alloc 39 32 (fun i => bv (fI i)))
              clear HB6
              generalize y7.alloc (.cells (tab 32 fun i => bv (fI i)) 39) = y8 at *
              generalize y7.heap.size = q17 at *
              have hr := Tr.read D I HTR.out.1 HI.out.2
              have hA := HB7.out.readHit (x := lf) HMN1.out (by have := HLL.out; have := HA1.out; have := HA2.out; omega) (Nat.le_trans HD.out (by decide)) HI.out.2 hr.1 (hr.2.trans (by unfold put; rw [if_pos rfl]))
              unfold dv at hA
              have HA := Lib.hid hA
              have HL6 := Lib.hid (loadHb ((HB7.out.bx _ (List.mem_cons_of_mem _ (List.mem_cons_self ..))).1))
              clear hA hr
              go_upto_region 25 with (first
                | ((with_reducible refine wpList_loadE (P := Tryd.prog) (w := y8) (ty := 39) (x := .tmp 6) (p := .pointer (some ⟨q6, 0, none⟩)) (v := .agg (tab 32 fun i => bv (X i))) ?_ ?_ ?_ HL6.out ?_); (· exact rfl); (· exact rfl); (· exact rfl))
                | (go_at_call 24; (with_reducible refine HA.out.mono ?_); rintro e y9 ⟨he, Ts3, A3, h1, h2⟩; obtain rfl : e = _ := he; have HB8 := Lib.hid h1; have HA3 := Lib.hid h2; clear HA h1 h2)
                | ((with_reducible refine wpList_store_row (P := Tryd.prog) (w := y9.alloc (.cells zh 39)) ?_ 39 (.tmp 18) (.tmp 106) ?_ y9.heap.size (tab 32 fun i => bv (lf i)) ?_ ?_ 39 zh (heap_alloc_last y9 _) (infH _) ?_ (one_bv _ _) ?_); (· exact rfl); (· exact rfl); (· exact rfl); (· exact rfl); (· rw [← HZH.out, tab_size, tab_size]); rw [World.setRow_alloc_new]; simp only [Act.put]))
              clear HB7 HL6
              have HB9 := Lib.hid (HB8.out.alloc 39 32 (fun i => bv (lf i)))
              clear HB8
              generalize y9.alloc (.cells (tab 32 fun i => bv (lf i)) 39) = ya at *
              generalize y9.heap.size = q18 at *
              have HBD := Lib.hid HB9.out.drew
              clear HB9
              obtain ⟨o, ho⟩ : ∃ o, I * 32 = o := ⟨_, rfl⟩
              have HO : Hid (I < n2 ∧ I * 32 = o ∧ o = 32 * I) := Lib.hid ⟨HI.out.1, ho, by omega⟩
              clear ho
              refine wp_region_og (fun z : World => ya.drew = z) (.take 0 (.take 1 (.take 2 (.take 3 (.take 4 (.take 5 (.take 6 (.take 7 (.take 8 (.take 9 (.take 10 (.take 11 (.take 12 (.take 13 (.take 14 (.take 15 (.take 16 (.take 17 (.take 18 (.take 19 .done)))))))))))))))))))) (by kernel_rfl) (by as_aux_lemma => kernel_rfl) rfl ?_
              generalize ya.drew = yb at *
              have HF2 : Hid ((Instr.loadAt 39 (.pointer (some ⟨ql, o, none⟩))).run Tryd.prog yb = .ok (.agg (tab 32 fun i => bv (fI i))) yb) := Lib.hid (by have h := loadHc ((HBD.out.bx _ (List.mem_cons_of_mem _ (List.mem_cons_of_mem _ (List.mem_cons_of_mem _ (List.mem_cons_of_mem _ (List.mem_cons_of_mem _ (List.mem_cons_of_mem _ (List.mem_cons_self ..)))))))).1) HO.out.1 HO.out.2.2; rw [HFI.out] at h; exact h)
              have HL17 := Lib.hid (loadHb ((HBD.out.bx _ (List.mem_cons_of_mem _ (List.mem_cons_self ..))).1))
              have HL18 := Lib.hid (loadHb ((HBD.out.bx _ (List.mem_cons_self ..)).1))
              have HLf := Lib.hid (loadLf ((HBD.out.bx _ (List.mem_cons_of_mem _ (List.mem_cons_of_mem _ (List.mem_cons_of_mem _ (List.mem_cons_of_mem _ (List.mem_cons_self ..)))))).1))
              refine og_tk (some 108) (.nilIface) rfl rfl (by go_simp) (fun _ _ => by simp [execOp, go_sem]) ?_
              simp only [Act.put, pS]
              refine og_tk (some 109) (.bool false) rfl rfl (by go_simp) (fun _ _ => by simp [execOp, go_sem]) ?_
              simp only [Act.put, pS]
              refine og_tk (some 110) (.bool false) rfl rfl (by go_simp) (fun _ _ => by simp [execOp, go_sem]) ?_
              simp only [Act.put, pS]
              refine og_tk (some 111) (.nilIface) rfl rfl (by go_simp) (fun _ _ => by simp [execOp, go_sem]) ?_
              simp only [Act.put, pS]
              refine og_tk (some 112) (.bool false) rfl rfl (by go_simp) (fun _ _ => by simp [execOp, go_sem]) ?_
              simp only [Act.put, pS]
              refine og_tk (some 113) (.bool false) rfl rfl (by go_simp) (fun _ _ => by simp [execOp, go_sem]) ?_
              simp only [Act.put, pS]
              refine og_tk (some 114) (.bool false) rfl rfl (by go_simp) (fun _ _ => by simp [execOp, go_sem]) ?_
              simp only [Act.put, pS]
              refine og_ld (some 115) 39 (.tmp 17) (.pointer (some ⟨q17, 0, none⟩)) (.agg (tab 32 fun i => bv (fI i))) rfl rfl (by go_simp) rfl rfl (fun y hy => hy ▸ HL17.out) ?_
              simp only [Act.put, pS]
              refine og_tk (some 116) (.slice (some ⟨ql, 0, none⟩) n2 n2) rfl rfl (by go_simp) (fun _ _ => by simp [execOp, go_sem]) ?_
              simp only [Act.put, pS]
              refine og_tk (some 117) (.int .i64 I) rfl rfl (by go_simp) (fun _ _ => by simp [execOp, go_sem]) ?_
              simp only [Act.put, pS]
              refine og_tk (some 118) (.pointer (some ⟨ql, o, none⟩)) rfl rfl (by go_simp) (fun y hy => by have h1 := HO.out.1; have h2 := HO.out.2.1; simp [execOp, go_sem, h1, h2, Result.andThen, Tryd.underlying56]) ?_
              simp only [Act.put, pS]
              refine og_ld (some 119) 39 (.tmp 118) (.pointer (some ⟨ql, o, none⟩)) (.agg (tab 32 fun i => bv (fI i))) rfl rfl (by go_simp) rfl rfl (fun y hy => hy ▸ HF2.out) ?_
              simp only [Act.put, pS]
              refine og_tk (some 120) (.bool false) rfl rfl (by go_simp) (fun y hy => exec_neqX (.tmp 115) (.tmp 119) 39 fI rfl rfl rfl) ?_
              simp only [Act.put, pS]
              refine og_tk (some 121) (.bool false) rfl rfl (by go_simp) (fun _ _ => by simp [execOp, go_sem]) ?_
              simp only [Act.put, pS]
              refine og_tk (some 122) (.bool false) rfl rfl (by go_simp) (fun _ _ => by simp [execOp, go_sem]) ?_
              simp only [Act.put, pS]
              refine og_ld (some 123) 39 (.tmp 18) (.pointer (some ⟨q18, 0, none⟩)) (.agg (tab 32 fun i => bv (lf i))) rfl rfl (by go_simp) rfl rfl (fun y hy => hy ▸ HL18.out) ?_
              simp only [Act.put, pS]
              refine og_tk (some 124) (.pointer (some ⟨q13, 1, none⟩)) rfl rfl (by go_simp) (fun _ _ => by simp [execOp, go_sem]) ?_
              simp only [Act.put, pS]
              refine og_ld (some 125) 28 (.tmp 124) (.pointer (some ⟨q13, 1, none⟩)) (.agg (tab 32 fun i => bv (lf i))) rfl rfl (by go_simp) rfl rfl (fun y hy => hy ▸ HLf.out) ?_
              simp only [Act.put, pS]
              refine og_tk (some 126) (.bool false) rfl rfl (by go_simp) (fun y hy => exec_neqX (.tmp 123) (.tmp 125) 39 lf rfl rfl rfl) ?_
              simp only [Act.put, pS]
              refine og_tk (some 127) (.bool false) rfl rfl (by go_simp) (fun _ _ => by simp [execOp, go_sem]) ?_
              simp only [Act.put, pS]
              refine og_done (NoPanic.normal ?_)
              have HTH := Lib.hid ((lv_hc ((HBD.out.bx _ (List.mem_cons_of_mem _ (List.mem_cons_of_mem _ (List.mem_cons_of_mem _ (List.mem_cons_of_mem _ (List.mem_cons_of_mem _ (List.mem_cons_of_mem _ (List.mem_cons_self ..)))))))).1)).there (k := I) (p := o) (n := 32) HO.out.1 HO.out.2.2 rfl)
              have hI1 : (I : Int) < (n2 : Int) := by have := HI.out; omega
              have hI2 := HO.out.2.1
              have hI3 := HO.out.1
              clear HL17 HL18 HF2
              go_upto_region 28 with (first
                | ((with_reducible refine wpList_loadE (P := Tryd.prog) (w := yb) (ty := 28) (x := .tmp 130) (p := .pointer (some ⟨q13, 1, none⟩)) (v := .agg (tab 32 fun i => bv (lf i))) ?_ ?_ ?_ HLf.out ?_); (· exact rfl); (· exact rfl); (· exact rfl))
                | ((with_reducible refine wpList_store_mid (P := Tryd.prog) (w := yb) (ty := 39) (x := .tmp 132) (y := .tmp 131) (b := ql) (o := o) (cells := tab 32 fun i => bv (lf i)) ?_ ?_ ?_ ?_ ?_ (infH _) (one_bv _ _) ?_); (· exact rfl); (· exact rfl); (· exact rfl); (· exact rfl); (· rw [tab_size]; exact HTH.out)))
              have HBF := Lib.hid ((HBD.out.sub (bx' := [⟨ql, 39, 32 * n2, hc f⟩, ⟨q6, 39, 32, fun i => bv (X i)⟩, ⟨q10, 39, 32, fun i => bv (rt i)⟩, ⟨q11, 39, 32, fun i => bv (zD i)⟩]) (fun b hb => by
                rcases List.mem_cons.1 hb with rfl | hb
                · exact (List.mem_cons_of_mem _ (List.mem_cons_of_mem _ (List.mem_cons_of_mem _ (List.mem_cons_of_mem _ (List.mem_cons_of_mem _ (List.mem_cons_of_mem _ (List.mem_cons_self ..)))))))
                rcases List.mem_cons.1 hb with rfl | hb
                · exact (List.mem_cons_of_mem _ (List.mem_cons_of_mem _ (List.mem_cons_self ..)))
                rcases List.mem_cons.1 hb with rfl | hb
                · exact (List.mem_cons_of_mem _ (List.mem_cons_of_mem _ (List.mem_cons_of_mem _ (List.mem_cons_self ..))))
                rcases List.mem_cons.1 hb with rfl | hb
                · exact (List.mem_cons_of_mem _ (List.mem_cons_of_mem _ (List.mem_cons_of_mem _ (List.mem_cons_of_mem _ (List.mem_cons_of_mem _ (List.mem_cons_self ..))))))
                · cases hb)).putAt (g := hc (put f I lf)) (p := o) (vs := (tab 32 fun i => bv (lf i)).toList) (hc_set ((HBD.out.bx _ (List.mem_cons_of_mem _ (List.mem_cons_of_mem _ (List.mem_cons_of_mem _ (List.mem_cons_of_mem _ (List.mem_cons_of_mem _ (List.mem_cons_of_mem _ (List.mem_cons_self ..)))))))).1) I lf o HO.out.2.2) (fun c hc => by
                have a1 := HNQ.out
                simp only [List.mem_cons, List.not_mem_nil, or_false] at hc
                rcases hc with rfl | rfl | rfl <;> (simp only; omega)))
              clear HBD HTH HLf hI1 hI2 hI3
              generalize yb.setCells ql o (tab 32 fun i => bv (lf i)).toList = yc at *
              have hrt := root_any D (some ⟨ql, 0, none⟩) n2 n2 (put f I lf) yc (.inr ⟨ql, 0, rfl, at5_of ((HBF.out.bx _ (List.mem_cons_self ..)).1) (Nat.le_refl _)⟩) (fun e => by cases e) (Nat.le_refl _) (by have := HN2.out; omega) HBF.out.ktab
              obtain ⟨hw0, hro⟩ := rootOf_tree (Nat.le_trans HD.out (by decide)) HTR.out.1
              rw [HN2.out.1] at hw0 hro
              rw [hro, hw0] at hrt
              unfold dv at hrt
              rw [show errV 0 = .nilIface from rfl] at hrt
              have HA := Lib.hid hrt
              clear hrt hw0 hro
              go_upto_region 29 with (first
                | (go_at_call 32; (with_reducible refine HA.out.mono ?_); rintro e yd ⟨he, hb⟩; obtain rfl : e = _ := he; have HBG := Lib.hid (HBF.out.next hb); clear HA hb)
                | ((with_reducible refine wpList_store_row (P := Tryd.prog) (w := yd.alloc (.cells zh 39)) ?_ 39 (.tmp 20) (.tmp 137) ?_ yd.heap.size (tab 32 fun i => bv (X i)) ?_ ?_ 39 zh (heap_alloc_last yd _) (infH _) ?_ (one_bv _ _) ?_); (· exact rfl); (· exact rfl); (· exact rfl); (· exact rfl); (· rw [← HZH.out, tab_size, tab_size]); rw [World.setRow_alloc_new]; simp only [Act.put]))
              clear HBF
              have HBH := Lib.hid (HBG.out.alloc 39 32 (fun i => bv (X i)))
              clear HBG
              generalize yd.alloc (.cells (tab 32 fun i => bv (X i)) 39) = ye at *
              generalize yd.heap.size = q20 at *
              have HL20 := Lib.hid (loadHb ((HBH.out.bx _ (List.mem_cons_self ..)).1))
              have HL6 := Lib.hid (loadHb ((HBH.out.bx _ (List.mem_cons_of_mem _ (List.mem_cons_of_mem _ (List.mem_cons_self ..)))).1))
              have hw1 : wrap64 ((n : Int) + 1) = ((n + 1 : Nat) : Int) := by have := HN9.out; unfold wrap64; omega
              have HW1 := Lib.hid hw1
              go_wp2_with (first
                | ((with_reducible refine wpList_loadG (P := Tryd.prog) (w := ye) (ty := 39) (x := .tmp 20) (p := .pointer (some ⟨q20, 0, none⟩)) (v := .agg (tab 32 fun i => bv (X i))) ?_ ?_ ?_ HL20.out ?_); rotate_left; (· exact rfl); (· exact rfl); rotate_left; (· go_simp))
                | ((with_reducible refine wpList_loadG (P := Tryd.prog) (w := ye) (ty := 39) (x := .tmp 6) (p := .pointer (some ⟨q6, 0, none⟩)) (v := .agg (tab 32 fun i => bv (X i))) ?_ ?_ ?_ HL6.out ?_); rotate_left; (· exact rfl); (· exact rfl); rotate_left; (· go_simp))
                | ((with_reducible refine wpList_neqX (w := ye) ?_ (.tmp 142) (.tmp 143) 39 X ?_ ?_ ?_ ?_); rotate_left; (· exact rfl); (· exact rfl); (· exact rfl); rotate_left; (· go_simp)))
              go_roundw
              case rel => exact ⟨n + 1, by have := HLT.out; omega, by have := HN9.out; omega, by go_num, Lib.hid ⟨Ts3, Tt1, M1, A3, N1, B1, X, rt, put f I lf, HBH.out.sub (fun b hb => by
                rcases List.mem_cons.1 hb with rfl | hb
                · exact (List.mem_cons_of_mem _ (List.mem_cons_of_mem _ (List.mem_cons_self ..)))
                rcases List.mem_cons.1 hb with rfl | hb
                · exact (List.mem_cons_of_mem _ (List.mem_cons_of_mem _ (List.mem_cons_of_mem _ (List.mem_cons_self ..))))
                rcases List.mem_cons.1 hb with rfl | hb
                · exact (List.mem_cons_of_mem _ (List.mem_cons_of_mem _ (List.mem_cons_of_mem _ (List.mem_cons_of_mem _ (List.mem_cons_self ..)))))
                rcases List.mem_cons.1 hb with rfl | hb
                · exact (List.mem_cons_of_mem _ (List.mem_cons_self ..))
                · cases hb), HMN1.out, HTR.out.1, Tr.ext HTR.out.2 D HT.out.2, by have := HLL.out; have := HN1L.out; omega, by have := HLL.out; have := HA1.out; have := HA2.out; have := HA3.out; omega, by have := HLL.out; have := HB1L.out; omega⟩⟩
              case measure => first | exact meas_lp HLT.out HW1.out | exact meas_nw HLT.out
      · go_wp2_with (fail)
        go_meet
        case rel => exact ⟨rfl, n, h30, Ts, Tt, M, A, N, B, rt, od, f, HGm.out, HMN.out, HT.out.1, HT.out.2, HLL.out.1, HLL.out.2.1, HLL.out.2.2.1⟩
  case rest =>
    as_aux_lemma =>
      obtain ⟨rfl, n, hn, Ts, Tt, M, A, N, B, rt, od, f, hG, hMN, hT1, hT2, hNl, hAl, hBl⟩ := hcut
      have HG0 := Lib.hid hG
      have HMN := Lib.hid hMN
      have HT := Lib.hid (And.intro hT1 hT2)
      have HLL : Hid (A.length ≤ 1530) := Lib.hid (by omega)
      clear hG hMN hT1 hT2 hNl hAl hBl
      have z3 := zeroHash
      generalize hz : (tab 32 fun _ => bv 0#8) = zh at *
      have HZH := Lib.hid hz
      clear hz
      go_wp2_with (fail)
      go_loopw [149] (fun i z => ∃ j : Nat, j ≤ n2 ∧ i = .int .i64 j ∧ Hid (∃ Ts' A', Gm w s t kb fb Ts' Tt M A' N B false (.slice none 0 0) [] [⟨q6, 39, 32, fun i => bv (rt i)⟩, ⟨q10, 39, 32, fun i => bv (od i)⟩, ⟨q11, 39, 32, fun i => bv (zD i)⟩, ⟨ql, 39, 32 * n2, hc f⟩] z ∧ A'.length ≤ 1530 + 34 * j)) (fun i _ => n2 - (intOf i).toNat)
      case atStart => exact ⟨0, Nat.zero_le _, rfl, Lib.hid ⟨Ts, A, HG0.out, HLL.out⟩⟩
      case round =>
        obtain ⟨j, hj, rfl, hp⟩ := hrel
        obtain ⟨Ts1, A1, hG, hA1⟩ := hp.out
        have HGm := Lib.hid hG
        clear hG hp
        by_cases hjn : j < n2
        · have t1 : decide (j < n2) = true := by simp; omega
          have HI : Hid (j < n2 ∧ j < 2 ^ D) := Lib.hid ⟨hjn, by rw [HN2.out.1]; exact hjn⟩
          have HAL := Lib.hid hA1
          have hr := Tr.read D j HT.out.1 HI.out.2
          have hA := HGm.out.readHit (x := f j) HMN.out (by have := HAL.out; have := HN2.out; omega) (Nat.le_trans HD.out (by decide)) HI.out.2 hr.1 hr.2
          obtain ⟨fI, hfI⟩ : ∃ x, f j = x := ⟨_, rfl⟩
          rw [hfI] at hA
          unfold dv at hA
          have HA := Lib.hid hA
          have HFI := Lib.hid hfI
          have HL6 := Lib.hid (loadHb ((HGm.out.bx _ (List.mem_cons_self ..)).1))
          clear hA hr hfI hA1 hj hjn
          go_upto_region 36 with (first
            | ((with_reducible refine wpList_loadE (P := Tryd.prog) (w := wr) (ty := 39) (x := .tmp 6) (p := .pointer (some ⟨q6, 0, none⟩)) (v := .agg (tab 32 fun i => bv (rt i))) ?_ ?_ ?_ HL6.out ?_); (· exact rfl); (· exact rfl); (· exact rfl))
            | (go_at_call 24; (with_reducible refine HA.out.mono ?_); rintro e y1 ⟨he, Ts2, A2, h1, h2⟩; obtain rfl : e = _ := he; have HB1 := Lib.hid h1; have HA2 := Lib.hid h2; clear HA h1 h2)
            | ((with_reducible refine wpList_store_row (P := Tryd.prog) (w := y1.alloc (.cells zh 39)) ?_ 39 (.tmp 22) (.tmp 158) ?_ y1.heap.size (tab 32 fun i => bv (fI i)) ?_ ?_ 39 zh (heap_alloc_last y1 _) (infH _) ?_ (one_bv _ _) ?_); (· exact rfl); (· exact rfl); (· exact rfl); (· exact rfl); (· rw [← HZH.out, tab_size, tab_size]); rw [World.setRow_alloc_new]; simp only [Act.put]))
          clear HGm HL6 t1
          have HB2 := Lib.hid (HB1.out.alloc 39 32 (fun i => bv (fI i)))
          clear HB1
          generalize y1.alloc (.cells (tab 32 fun i => bv (fI i)) 39) = y2 at *
          generalize y1.heap.size = q22 at *
          have hr := Tr.read D j HT.out.2 HI.out.2
          have hA := HB2.out.readHit (x := Mk.zero 0) HMN.out (by have := HAL.out; have := HA2.out; have := HN2.out; have := HI.out; omega) (Nat.le_trans HD.out (by decide)) HI.out.2 hr.1 hr.2
          unfold dv at hA
          have HA := Lib.hid hA
          have HL11 := Lib.hid (loadHb ((HB2.out.bx _ (List.mem_cons_of_mem _ (List.mem_cons_of_mem _ (List.mem_cons_of_mem _ (List.mem_cons_self ..))))).1))
          clear hA hr
          go_upto_region 37 with (first
            | ((with_reducible refine wpList_loadE (P := Tryd.prog) (w := y2) (ty := 39) (x := .tmp 11) (p := .pointer (some ⟨q11, 0, none⟩)) (v := .agg (tab 32 fun i => bv (zD i))) ?_ ?_ ?_ HL11.out ?_); (· exact rfl); (· exact rfl); (· exact rfl))
            | (go_at_call 24; (with_reducible refine HA.out.mono ?_); rintro e y3 ⟨he, Ts3, A3, h1, h2⟩; obtain rfl : e = _ := he; have HB3 := Lib.hid h1; have HA3 := Lib.hid h2; clear HA h1 h2)
            | ((with_reducible refine wpList_store_row (P := Tryd.prog) (w := y3.alloc (.cells zh 39)) ?_ 39 (.tmp 24) (.tmp 166) ?_ y3.heap.size (tab 32 fun i => bv (Mk.zero 0 i)) ?_ ?_ 39 zh (heap_alloc_last y3 _) (infH _) ?_ (one_bv _ _) ?_); (· exact rfl); (· exact rfl); (· exact rfl); (· exact rfl); (· rw [← HZH.out, tab_size, tab_size]); rw [World.setRow_alloc_new]; simp only [Act.put]))
          clear HB2 HL11
          have HB4 := Lib.hid (HB3.out.alloc 39 32 (fun i => bv (Mk.zero 0 i)))
          clear HB3
          generalize y3.alloc (.cells (tab 32 fun i => bv (Mk.zero 0 i)) 39) = y4 at *
          generalize y3.heap.size = q24 at *
          have HBD := Lib.hid HB4.out.drew
          clear HB4
          obtain ⟨o, ho⟩ : ∃ o, j * 32 = o := ⟨_, rfl⟩
          have HO : Hid (j < n2 ∧ j * 32 = o ∧ o = 32 * j) := Lib.hid ⟨HI.out.1, ho, by omega⟩
          clear ho
          refine wp_region_og (fun z : World => y4.drew = z) (.take 0 (.take 1 (.take 2 (.take 3 (.take 4 (.take 5 (.take 6 (.take 7 (.take 8 (.take 9 (.take 10 (.take 11 (.take 12 (.take 13 (.take 14 (.take 15 (.take 16 (.take 17 (.take 18 .done))))))))))))))))))) (by kernel_rfl) (by as_aux_lemma => kernel_rfl) rfl ?_
          generalize y4.drew = yb at *
          have HF2 : Hid ((Instr.loadAt 39 (.pointer (some ⟨ql, o, none⟩))).run Tryd.prog yb = .ok (.agg (tab 32 fun i => bv (fI i))) yb) := Lib.hid (by have h := loadHc ((HBD.out.bx _ (List.mem_cons_of_mem _ (List.mem_cons_of_mem _ (List.mem_cons_of_mem _ (List.mem_cons_of_mem _ (List.mem_cons_of_mem _ (List.mem_cons_self ..))))))).1) HO.out.1 HO.out.2.2; rw [HFI.out] at h; exact h)
          have HL22 := Lib.hid (loadHb ((HBD.out.bx _ (List.mem_cons_of_mem _ (List.mem_cons_self ..))).1))
          have HL24 := Lib.hid (loadHb ((HBD.out.bx _ (List.mem_cons_self ..)).1))
          refine og_tk (some 168) (.nilIface) rfl rfl (by go_simp) (fun _ _ => by simp [execOp, go_sem]) ?_
          simp only [Act.put, pS]
          refine og_tk (some 169) (.bool false) rfl rfl (by go_simp) (fun _ _ => by simp [execOp, go_sem]) ?_
          simp only [Act.put, pS]
          refine og_tk (some 170) (.bool false) rfl rfl (by go_simp) (fun _ _ => by simp [execOp, go_sem]) ?_
          simp only [Act.put, pS]
          refine og_tk (some 171) (.nilIface) rfl rfl (by go_simp) (fun _ _ => by simp [execOp, go_sem]) ?_
          simp only [Act.put, pS]
          refine og_tk (some 172) (.bool false) rfl rfl (by go_simp) (fun _ _ => by simp [execOp, go_sem]) ?_
          simp only [Act.put, pS]
          refine og_tk (some 173) (.bool false) rfl rfl (by go_simp) (fun _ _ => by simp [execOp, go_sem]) ?_
          simp only [Act.put, pS]
          refine og_tk (some 174) (.bool false) rfl rfl (by go_simp) (fun _ _ => by simp [execOp, go_sem]) ?_
          simp only [Act.put, pS]
          refine og_ld (some 175) 39 (.tmp 22) (.pointer (some ⟨q22, 0, none⟩)) (.agg (tab 32 fun i => bv (fI i))) rfl rfl (by go_simp) rfl rfl (fun y hy => hy ▸ HL22.out) ?_
          simp only [Act.put, pS]
          refine og_tk (some 176) (.slice (some ⟨ql, 0, none⟩) n2 n2) rfl rfl (by go_simp) (fun _ _ => by simp [execOp, go_sem]) ?_
          simp only [Act.put, pS]
          refine og_tk (some 177) (.int .i64 j) rfl rfl (by go_simp) (fun _ _ => by simp [execOp, go_sem]) ?_
          simp only [Act.put, pS]
          refine og_tk (some 178) (.pointer (some ⟨ql, o, none⟩)) rfl rfl (by go_simp) (fun y hy => by have h1 := HO.out.1; have h2 := HO.out.2.1; simp [execOp, go_sem, h1, h2, Result.andThen, Tryd.underlying56]) ?_
          simp only [Act.put, pS]
          refine og_ld (some 179) 39 (.tmp 178) (.pointer (some ⟨ql, o, none⟩)) (.agg (tab 32 fun i => bv (fI i))) rfl rfl (by go_simp) rfl rfl (fun y hy => hy ▸ HF2.out) ?_
          simp only [Act.put, pS]
          refine og_tk (some 180) (.bool false) rfl rfl (by go_simp) (fun y hy => exec_neqX (.tmp 175) (.tmp 179) 39 fI rfl rfl rfl) ?_
          simp only [Act.put, pS]
          refine og_tk (some 181) (.bool false) rfl rfl (by go_simp) (fun _ _ => by simp [execOp, go_sem]) ?_
          simp only [Act.put, pS]
          refine og_tk (some 182) (.bool false) rfl rfl (by go_simp) (fun _ _ => by simp [execOp, go_sem]) ?_
          simp only [Act.put, pS]
          refine og_ld (some 183) 39 (.tmp 24) (.pointer (some ⟨q24, 0, none⟩)) (.agg (tab 32 fun i => bv (Mk.zero 0 i))) rfl rfl (by go_simp) rfl rfl (fun y hy => hy ▸ HL24.out) ?_
          simp only [Act.put, pS]
          refine og_tk (some 184) (.agg (tab 32 fun i => bv (Mk.zero 0 i))) rfl rfl (by go_simp) (fun y hy => exec_buildH _ _ y rfl) ?_
          simp only [Act.put, pS]
          refine og_tk (some 185) (.bool false) rfl rfl (by go_simp) (fun y hy => exec_neqX (.tmp 183) (.tmp 184) 39 (Mk.zero 0) rfl rfl rfl) ?_
          simp only [Act.put, pS]
          refine og_tk (some 186) (.bool false) rfl rfl (by go_simp) (fun _ _ => by simp [execOp, go_sem]) ?_
          simp only [Act.put, pS]
          refine og_done (NoPanic.normal ?_)
          have hw1 : wrap64 ((j : Int) + 1) = ((j + 1 : Nat) : Int) := by have := HN2.out; have := HI.out; unfold wrap64; omega
          have HW1 := Lib.hid hw1
          clear HL22 HL24 HF2
          go_wp2_with (fail)
          go_roundw
          case rel => exact ⟨j + 1, HI.out.1, by go_num, Lib.hid ⟨Ts3, A3, HBD.out.sub (fun b hb => List.mem_cons_of_mem _ (List.mem_cons_of_mem _ hb)), by have := HAL.out; have := HA2.out; have := HA3.out; omega⟩⟩
          case measure => first | exact meas_lp HI.out.1 HW1.out | exact meas_nw HI.out.1
        · obtain rfl : j = n2 := by omega
          clear hj hjn
          go_wp2_with (fail)
          go_ret
          exact ⟨rfl, HGm.out.below⟩

end Wt
end Go.Proofs.YtdmffnjbholkkaaDoor
namespace Go.Proofs.YtdmffnjbholkkaaDoor
open Go.ChangeShapes Go.WideShapes Go.Deep Go.RowKit
set_option linter.unusedVariables false
namespace Wt
open Kc Mk
section
variable {H : Type} {enc : TypeId × Value → H} {P : Program} {w : World} {base : Nat} {spare : Nat → Bool} {held : Bool}
def byteOf (w : World) (b o : Nat) : Bt := match w.cell? ⟨b, o, none⟩ with
  | some (.int _ z) => bof z
  | _ => 0#8
theorem puts_of {t e u : TypeId} {fs : Array Field} {a0 : Option Addr} {l0 c0 : Nat} {d : DataW H} {ps : List MemPlace} (ht : P.underlying t = some (.slice e)) (he : P.underlying e = some (.struct fs)) (hu : P.underlying u = some (.int .u8))
    (hf0 : ∃ F : Field, fs[0]? = some F ∧ F.offset = 0 ∧ P.underlying F.type = some (.int .i64) ∧ P.cellsOf F.type = 1)
    (hf1 : ∃ F : Field, fs[1]? = some F ∧ F.offset = 1 ∧ P.underlying F.type = some (.array 32 u) ∧ P.cellsOf F.type = 32)
    (hC : P.cellsOf e = 33) (hCu : P.cellsOf u = 1) (h : DataW.Trod enc P w base spare held t (.slice a0 l0 c0) d ps) :
    l0 ≤ maxLen ∧ ∀ i, i < l0 → ∃ c off, ∃ (a : Int) (lf : Hx), a0 = some ⟨c, off, none⟩ ∧ w.cell? ⟨c, off + i * 33, none⟩ = some (.int .i64 a) ∧ ∀ j, j < 32 → w.cell? ⟨c, off + i * 33 + 1 + j, none⟩ = some (bv (lf j)) := by
  obtain ⟨F0, f0, p0, u0, n0⟩ := hf0
  obtain ⟨F1, f1, p1, u1, n1⟩ := hf1
  obtain ⟨fuel, hf⟩ := h
  rcases open_slice ht hf with ⟨h0, _⟩ | ⟨a, len, cap, m, n, D, Pl, hcs, _, hl, hm, hmm, _, hi⟩
  · have h1 : a0 = none ∧ l0 = 0 ∧ c0 = 0 := by simpa [Value.cells] using h0
    obtain ⟨rfl, rfl, rfl⟩ := h1
    exact ⟨by decide, fun i hi => by omega⟩
  · have hva : a0 = some a ∧ l0 = len ∧ c0 = cap := by simpa [Value.cells] using hcs
    obtain ⟨rfl, rfl, rfl⟩ := hva
    refine ⟨Nat.le_trans hl hm, ?_⟩
    have elem : ∀ i, i < l0 → ∃ z : Int, w.cell? (a.add (i * 33 + 0)) = some (.int .i64 z) ∧ ∀ j, j < 32 → ∃ x : Int, w.cell? (a.add (i * 33 + (1 + j))) = some (.int .u8 x) ∧ (Lit.int .u8 x).wf = true := by
     intro i hil
     have him : i < m := by rw [hmm]; split <;> omega
     obtain ⟨cs, hc, htr⟩ := hi i him
     rw [hC] at hc
     obtain ⟨_, hlen, hat⟩ := World.cells?_some hc
     obtain ⟨ys, n', _, _, _, _, hg⟩ := DataW.trod_struct he htr
     have g0 := hg 0 F0 f0
     have g1 := hg 1 F1 f1
     rw [p0, n0] at g0
     rw [p1, n1] at g1
     have hy : ∀ k F, fs[k]? = some F → ∃ y, ys[k]? = some y := fun k F hk => by
       have := (Array.getElem?_eq_some_iff.1 hk).1
       exact ⟨_, List.getElem?_eq_getElem (by omega)⟩
     obtain ⟨y0, hy0⟩ := hy 0 F0 f0
     obtain ⟨y1, hy1⟩ := hy 1 F1 f1
     rw [hy0] at g0
     rw [hy1] at g1
     have e0 : (cs.drop 0).take 1 = [cs[0]] := by rw [List.drop_zero, List.take_one]; cases cs with
       | nil => simp at hlen
       | cons x r => rfl
     rw [e0] at g0
     obtain ⟨z, hz, _, _⟩ := DataW.trod_int u0 g0
     have hz0 : cs[0] = .int .i64 z := by simpa using hz
     have hcell := hat 0 (by decide)
     rw [List.getElem?_eq_getElem (by omega), hz0, add_add] at hcell
     obtain ⟨xs, m', _, _, hlen', hx, hel⟩ := DataW.trod_array u1 g1
     have key : ∀ j, j < 32 → ∃ z : Int, w.cell? (a.add (i * 33 + (1 + j))) = some (.int .u8 z) ∧ (Lit.int .u8 z).wf = true := by
       intro j hj
       have e1 := hel j hj
       rw [hCu, Nat.mul_one, List.getElem?_eq_getElem (by omega)] at e1
       obtain ⟨z, e2, _, e3⟩ := DataW.trod_int hu e1
       refine ⟨z, ?_, e3⟩
       have h9 : ((((cs.drop 1).take 32).drop j).take 1)[0]? = some (.int .u8 z) := by rw [e2]; rfl
       have h8 : cs[1 + j]? = some (.int .u8 z) := by
         rw [List.getElem?_take, if_pos (by decide), List.getElem?_drop, List.getElem?_take, if_pos (by omega), List.getElem?_drop] at h9
         simpa using h9
       have hcell := hat (1 + j) (by omega)
       rw [h8, add_add] at hcell
       exact hcell
     exact ⟨z, hcell, key⟩
    intro i hil
    obtain ⟨b, off, spot⟩ := a
    have hspot : spot = none := by
      obtain ⟨z, hz, _⟩ := elem 0 (by omega)
      simpa [Addr.add] using World.cell?_spot hz
    subst hspot
    obtain ⟨z, hcell, key⟩ := elem i hil
    rw [add_at, Nat.add_zero] at hcell
    refine ⟨b, off, z, fun j => byteOf w b (off + i * 33 + 1 + j), rfl, hcell, fun j hj => ?_⟩
    obtain ⟨x, hx1, hw⟩ := key j hj
    rw [add_at, show off + (i * 33 + (1 + j)) = off + i * 33 + 1 + j from by omega] at hx1
    have hb := wf_u8 hw
    rw [hx1]
    show some (Value.int .u8 x) = some (bv (byteOf w b (off + i * 33 + 1 + j)))
    unfold byteOf bv
    rw [hx1]
    show _ = some (Value.int .u8 (Bv (bof x)))
    rw [Bv_bof hb.1 hb.2]
end
theorem puts_in {H : Type} {enc : TypeId × Value → H} {w : World} {base : Nat} {spare : Nat → Bool} {held : Bool} {a0 : Option Addr} {l0 c0 : Nat} {d : DataW H} {ps : List MemPlace} (h : DataW.Trod enc Tryd.prog w base spare held 64 (.slice a0 l0 c0) d ps) :
    l0 ≤ maxLen ∧ ∀ i, i < l0 → ∃ c off, ∃ (a : Int) (lf : Hx), a0 = some ⟨c, off, none⟩ ∧ w.cell? ⟨c, off + i * 33, none⟩ = some (.int .i64 a) ∧ ∀ j, j < 32 → w.cell? ⟨c, off + i * 33 + 1 + j, none⟩ = some (bv (lf j)) :=
  puts_of Tryd.underlying64 Tryd.underlying67 (u := 5) (by kernel_rfl) ⟨_, rfl, rfl, by kernel_rfl, by kernel_rfl⟩ ⟨_, rfl, rfl, by kernel_rfl, by kernel_rfl⟩ (by kernel_rfl) (by kernel_rfl) h
theorem witnessTrees_walk (d : Int) (a0 : Option Addr) (len0 cap0 : Nat) (hd : (Lit.int .i64 d).wf = true) {w : World} (w0 : len0 ≤ maxLen ∧ ∀ i, i < len0 → ∃ c off, ∃ (a : Int) (lf : Hx), a0 = some ⟨c, off, none⟩ ∧ w.cell? ⟨c, off + i * 33, none⟩ = some (.int .i64 a) ∧ ∀ j, j < 32 → w.cell? ⟨c, off + i * 33 + 1 + j, none⟩ = some (bv (lf j))) (hg : Et w) (ht : Laid.KTab w) :
    Calls Tryd.prog 5 #[.int .i64 d, .slice a0 len0 cap0] w fun e w' => e = .returned (.bool true) ∧ Below w.heap.size w w' :=
  trees_in a0 len0 cap0 d w (by have := w0.1; unfold maxLen at this; omega) w0.2 hg ht
end Wt
end Go.Proofs.YtdmffnjbholkkaaDoor
