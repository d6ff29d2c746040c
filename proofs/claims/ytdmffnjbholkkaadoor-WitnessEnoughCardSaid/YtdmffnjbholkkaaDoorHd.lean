/- Merged. Own work. -/
import Derived.Test.YtdmffnjbholkkaaDoorUy
import Derived.Test.YtdmffnjbholkkaaDoorGd
import Derived.Test.YtdmffnjbholkkaaDoorMc
import Derived.Deep.DeepCutAuto
import Derived.Deep.CutBlock
import Derived.Test.YtdmffnjbholkkaaDoorArr
import Derived.Deep.Slices
import Derived.Deep.Fields
import Derived.ChangeSame
import Derived.OpenShut
namespace Go.Proofs.YtdmffnjbholkkaaDoor
open Go.RowKit
set_option linter.unusedVariables false
set_option linter.unusedSimpArgs false
set_option linter.unusedVariables false
set_option linter.unusedSimpArgs false
namespace Wt
open Kc Mk
section
variable {β : Type}
theorem look_key {M : List (Hx × β)} {h h' : Hx} (e : key h = key h') : look M h = look M h' := by unfold look; rw [e]
theorem look_cons (q : Hx × β) (M : List (Hx × β)) (h : Hx) : look (q :: M) h = if key q.1 = key h then some q.2 else look M h := by
  unfold look
  rw [List.find?_cons]
  by_cases e : key q.1 = key h
  · simp [e]
  · have h1 : (key q.1 == key h) = false := by simpa using e
    simp [h1, e]
theorem look_map (k : Hx) (v : β) (h : Hx) : ∀ M : List (Hx × β), look (M.map fun q => if key q.1 == key k then (q.1, v) else q) h = if key k = key h then (look M h).map (fun _ => v) else look M h
  | [] => by
    show (none : Option β) = _
    split <;> rfl
  | q :: M => by
    rw [List.map_cons, look_cons, look_cons, look_map k v h M]
    by_cases e : key q.1 = key k
    · have e1 : (key q.1 == key k) = true := by simpa using e
      rw [if_pos e1]
      by_cases e2 : key k = key h
      · simp [e, e2]
      · simp [e, e2]
    · have e1 : ¬ (key q.1 == key k) = true := by simpa using e
      rw [if_neg e1]
      by_cases e2 : key k = key h
      · have h3 : ¬ key q.1 = key h := fun x => e (x.trans e2.symm)
        simp [h3, e2]
      · simp [e2]
theorem look_app (k : Hx) (v : β) (h : Hx) : ∀ M : List (Hx × β), look (M ++ [(k, v)]) h = (look M h).or (if key k = key h then some v else none)
  | [] => by
    rw [List.nil_append, look_cons]
    show _ = (none : Option β).or _
    simp
    rfl
  | q :: M => by
    rw [List.cons_append, look_cons, look_cons, look_app k v h M]
    by_cases e : key q.1 = key h
    · simp [e]
    · simp [e]
theorem look_putM (M : List (Hx × β)) (k : Hx) (v : β) (h : Hx) : look (putM M k v) h = if key k = key h then some v else look M h := by
  have hh := look_has M k
  unfold putM
  by_cases hk : has M k = true
  · rw [if_pos hk, look_map]
    by_cases e : key k = key h
    · rw [if_pos e, if_pos e, ← look_key (M := M) e]
      rw [hk] at hh
      obtain ⟨u, hu⟩ := Option.isSome_iff_exists.1 hh
      rw [hu]
      rfl
    · rw [if_neg e, if_neg e]
  · rw [if_neg hk, look_app]
    by_cases e : key k = key h
    · have h1 : look M k = none := by
        have h2 : has M k = false := by simpa using hk
        rw [h2] at hh
        simpa using hh
      rw [if_pos e, if_pos e, ← look_key (M := M) e, h1]
      rfl
    · rw [if_neg e, if_neg e]
      simp
end
/-- What one list knows, another one knows, too. -/
def Ext (N N' : List (Hx × Px)) : Prop := ∀ h p, look N h = some p → ∃ q, look N' h = some q ∧ pre q = pre p
theorem Ext.refl (N : List (Hx × Px)) : Ext N N := fun h p e => ⟨p, e, rfl⟩
theorem Ext.trans {N N' N2 : List (Hx × Px)} (h : Ext N N') (k : Ext N' N2) : Ext N N2 := fun x p e => by
  obtain ⟨q, h1, h2⟩ := h x p e
  obtain ⟨r, h3, h4⟩ := k x q h1
  exact ⟨r, h3, h4.trans h2⟩
theorem Ext.alike {M N : List (Hx × Px)} (h : Alike M N) : Ext M N := fun x p e => by
  have h1 := h.look x
  rw [e] at h1
  cases h2 : look N x with
  | none => rw [h2] at h1; cases h1
  | some q => rw [h2] at h1; exact ⟨q, rfl, by simpa using h1.symm⟩
theorem Ext.put {N : List (Hx × Px)} {p : Px} (h : clash N p = false) : Ext N (putM N (hs p) p) := fun x q e => by
  rw [look_putM]
  by_cases hk : key (hs p) = key x
  · rw [if_pos hk]
    refine ⟨p, rfl, ?_⟩
    have h1 : look N (hs p) = some q := (look_key hk).trans e
    have h2 : pre ((look N (hs p)).getD p) = pre p := by
      unfold clash at h
      simpa using h
    rw [h1] at h2
    exact h2.symm
  · rw [if_neg hk]
    exact ⟨q, e, rfl⟩
theorem hfb_key {p q : Px} (h : pre p = pre q) (b : Bool) : key (hfb p b) = key (hfb q b) := key_of fun i hi => by
  unfold hfb
  exact pre_get h _ (by split <;> omega)
theorem hfb_jn (x y : Hx) : key (hfb (jn x y) false) = key x ∧ key (hfb (jn x y) true) = key y := by
  refine ⟨key_of fun i hi => ?_, key_of fun i hi => ?_⟩
  · show jn x y (if false = true then 32 + i else i) = x i
    unfold jn
    simp [hi]
  · show jn x y (if true = true then 32 + i else i) = y i
    unfold jn
    rw [if_pos rfl, if_neg (by omega)]
    congr 1
    omega
theorem hs_pr {p : Px} {x y : Hx} (hx : key (hfb p false) = key x) (hy : key (hfb p true) = key y) : hs p = pr x y := by
  rw [← hs_jn]
  refine hs_pre (pre_of fun i hi => ?_)
  unfold jn
  by_cases h : i < 32
  · rw [if_pos h]
    have := key_at hx i h
    unfold hfb at this
    simpa using this
  · rw [if_neg h]
    have := key_at hy (i - 32) (by omega)
    unfold hfb at this
    rw [if_pos rfl, show 32 + (i - 32) = i from by omega] at this
    exact this
/-- A tree of a height that a list of preimages holds under a root: its leaves. -/
def Tr (N : List (Hx × Px)) : Nat → Hx → (Nat → Hx) → Prop
  | 0, h, L => key h = key (L 0)
  | d + 1, h, L => ∃ p, look N h = some p ∧ key h = key (hs p) ∧ Tr N d (hfb p false) L ∧ Tr N d (hfb p true) fun i => L (2 ^ d + i)
theorem Tr.key {N : List (Hx × Px)} : ∀ (d : Nat) {h h' : Hx} {L : Nat → Hx}, Wt.key h = Wt.key h' → Tr N d h L → Tr N d h' L
  | 0, h, h', L, e, t => e.symm.trans t
  | d + 1, h, h', L, e, t => by
    obtain ⟨p, h1, h2, h3, h4⟩ := t
    exact ⟨p, (look_key e).symm.trans h1, e.symm.trans h2, h3, h4⟩
theorem Tr.ext {N N' : List (Hx × Px)} (he : Ext N N') : ∀ (d : Nat) {h : Hx} {L : Nat → Hx}, Tr N d h L → Tr N' d h L
  | 0, h, L, t => t
  | d + 1, h, L, t => by
    obtain ⟨p, h1, h2, h3, h4⟩ := t
    obtain ⟨q, k1, k2⟩ := he h p h1
    exact ⟨q, k1, h2.trans (by rw [hs_pre k2]), Tr.key d (hfb_key k2 false).symm (Tr.ext he d h3), Tr.key d (hfb_key k2 true).symm (Tr.ext he d h4)⟩
theorem Tr.cong {N : List (Hx × Px)} : ∀ (d : Nat) {h : Hx} {L L' : Nat → Hx}, (∀ i, i < 2 ^ d → Wt.key (L i) = Wt.key (L' i)) → Tr N d h L → Tr N d h L'
  | 0, h, L, L', e, t => Eq.trans t (e 0 (by decide))
  | d + 1, h, L, L', e, t => by
    have hp : 2 ^ (d + 1) = 2 ^ d + 2 ^ d := by rw [Nat.pow_succ]; omega
    obtain ⟨p, h1, h2, h3, h4⟩ := t
    exact ⟨p, h1, h2, Tr.cong d (fun i hi => e i (by omega)) h3, Tr.cong d (fun i hi => e _ (by omega)) h4⟩
theorem und_shift (g : Nat → Hx) (k : Nat) : ∀ d m, und (fun i => g (k + i)) d m = und g d (k + m)
  | 0, m => rfl
  | d + 1, m => by
    show pr _ _ = pr _ _
    rw [und_shift g k d m, und_shift g k d (m + 2 ^ d), Nat.add_assoc]
/-- The root is the tree's. -/
theorem Tr.root {N : List (Hx × Px)} : ∀ (d : Nat) {h : Hx} {L : Nat → Hx}, Tr N d h L → Wt.key h = Wt.key (und L d 0)
  | 0, h, L, t => t
  | d + 1, h, L, t => by
    obtain ⟨p, h1, h2, h3, h4⟩ := t
    have k3 := Tr.root d h3
    have k4 := Tr.root d h4
    rw [und_shift L (2 ^ d) d 0] at k4
    rw [h2, hs_pr k3 k4]
    show Wt.key (pr (und L d 0) (und L d (2 ^ d + 0))) = Wt.key (pr (und L d 0) (und L d (0 + 2 ^ d)))
    rw [Nat.add_comm]
theorem Tr.zero : ∀ (d : Nat), d ≤ 16 → Tr (zs 16) d (Mk.zero d) fun _ => Mk.zero 0
  | 0, _ => rfl
  | d + 1, hd => by
    have t := Tr.zero d (by omega)
    have e := hfb_jn (Mk.zero d) (Mk.zero d)
    exact ⟨zz d, look_zs d (by omega), by rw [hs_zz], Tr.key d e.1.symm t, Tr.key d e.2.symm t⟩
theorem bit_mod (i d k : Nat) (hk : k < d) : (i % 2 ^ d) / 2 ^ k % 2 = i / 2 ^ k % 2 := by
  have h := Nat.testBit_mod_two_pow i d k
  rw [Nat.testBit_eq_decide_div_mod_eq, Nat.testBit_eq_decide_div_mod_eq, decide_eq_true hk, Bool.true_and] at h
  have h1 : ((i % 2 ^ d) / 2 ^ k % 2 = 1) ↔ (i / 2 ^ k % 2 = 1) := by simpa using h
  have h2 := Nat.mod_lt ((i % 2 ^ d) / 2 ^ k) (show 0 < 2 by decide)
  have h3 := Nat.mod_lt (i / 2 ^ k) (show 0 < 2 by decide)
  omega
theorem bt_sub (d i j : Nat) (hj : j < d) : bt (d + 1) i (j + 1) = bt d (i % 2 ^ d) j := by
  unfold bt
  rw [bit_mod i d (d - 1 - j) (by omega), show d + 1 - 1 - (j + 1) = d - 1 - j from by omega]
/-- The way below the root is the half's way. -/
theorem hhw_sub {N : List (Hx × Px)} {h : Hx} {p : Px} (hp : look N h = some p) (d i : Nat) : ∀ j, j ≤ d → hhw N (d + 1) i h (j + 1) = hhw N d (i % 2 ^ d) (hfb p (bt (d + 1) i 0)) j
  | 0, _ => by
    show hfb ((look N (hhw N (d + 1) i h 0)).getD zp) (bt (d + 1) i 0) = hfb p (bt (d + 1) i 0)
    rw [hhw_zero, hp]
    rfl
  | j + 1, hj => by
    show hfb ((look N (hhw N (d + 1) i h (j + 1))).getD zp) (bt (d + 1) i (j + 1)) = hfb ((look N (hhw N d (i % 2 ^ d) (hfb p (bt (d + 1) i 0)) j)).getD zp) (bt d (i % 2 ^ d) j)
    rw [hhw_sub hp d i j (by omega), bt_sub d i j (by omega)]
theorem half_of (d i : Nat) (hi : i < 2 ^ (d + 1)) : (bt (d + 1) i 0 = false ∧ i % 2 ^ d = i ∧ i < 2 ^ d) ∨ (bt (d + 1) i 0 = true ∧ i = 2 ^ d + i % 2 ^ d) := by
  have hp : 2 ^ (d + 1) = 2 ^ d + 2 ^ d := by rw [Nat.pow_succ]; omega
  have h0 : 0 < 2 ^ d := Nat.pow_pos (by decide)
  unfold bt
  rw [show d + 1 - 1 - 0 = d from by omega]
  by_cases h : i < 2 ^ d
  · left
    refine ⟨?_, Nat.mod_eq_of_lt h, h⟩
    rw [Nat.div_eq_of_lt h]
    decide
  · right
    have h1 : i / 2 ^ d = 1 := by
      rw [Nat.div_eq_iff h0]
      omega
    refine ⟨by rw [h1]; decide, ?_⟩
    have := Nat.div_add_mod i (2 ^ d)
    rw [h1] at this
    omega
/-- A leaf is read. -/
theorem Tr.read {N : List (Hx × Px)} : ∀ (d : Nat) {h : Hx} {L : Nat → Hx} (i : Nat), Tr N d h L → i < 2 ^ d → (∀ j, j < d → has N (hhw N d i h j) = true) ∧ Wt.key (hhw N d i h d) = Wt.key (L i)
  | 0, h, L, i, t, hi => by
    obtain rfl : i = 0 := by simpa using hi
    exact ⟨fun j hj => by omega, t⟩
  | d + 1, h, L, i, t, hi => by
    obtain ⟨p, h1, h2, h3, h4⟩ := t
    have h0 : 0 < 2 ^ d := Nat.pow_pos (by decide)
    have hb : i % 2 ^ d < 2 ^ d := Nat.mod_lt _ h0
    have hhas : has N h = true := by rw [← look_has, h1]; rfl
    have key : (∀ j, j < d → has N (hhw N d (i % 2 ^ d) (hfb p (bt (d + 1) i 0)) j) = true) ∧ Wt.key (hhw N d (i % 2 ^ d) (hfb p (bt (d + 1) i 0)) d) = Wt.key (L i) := by
      rcases half_of d i hi with ⟨e1, e2, _⟩ | ⟨e1, e2⟩
      · rw [e1, e2]
        rw [e2] at hb
        exact Tr.read d i h3 hb
      · have h5 := Tr.read d (i % 2 ^ d) h4 hb
        rw [e1]
        refine ⟨h5.1, h5.2.trans ?_⟩
        show Wt.key (L (2 ^ d + i % 2 ^ d)) = Wt.key (L i)
        rw [← e2]
    refine ⟨fun j hj => ?_, ?_⟩
    · cases j with
      | zero => rw [hhw_zero]; exact hhas
      | succ j => rw [hhw_sub h1 d i j (by omega)]; exact key.1 j (by omega)
    · rw [hhw_sub h1 d i d (Nat.le_refl _)]; exact key.2
theorem wup_cong {sd sd' : Nat → Hx} {D D' i i' m : Nat} (N : List (Hx × Px)) (lf : Hx) (h : ∀ j, j < m → ∀ x, wjn sd D i j x = wjn sd' D' i' j x) : ∀ j, j ≤ m → wlf sd D i lf j = wlf sd' D' i' lf j ∧ wpr N sd D i lf j = wpr N sd' D' i' lf j
  | 0, _ => ⟨rfl, rfl⟩
  | j + 1, hj => by
    obtain ⟨h1, h2⟩ := wup_cong N lf h j (by omega)
    refine ⟨?_, ?_⟩
    · rw [wlf, wlf, h1, h j (by omega)]
    · rw [wpr, wpr, h1, h2, h j (by omega)]
theorem wmt_no {N : List (Hx × Px)} {sd : Nat → Hx} {d i : Nat} {lf : Hx} {met : Bool} : ∀ j, wmt met N sd d i lf j = false → met = false ∧ ∀ k, k < j → clash (wpr N sd d i lf k) (wjn sd d i k (wlf sd d i lf k)) = false
  | 0, h => ⟨h, fun k hk => by omega⟩
  | j + 1, h => by
    rw [wmt, Bool.or_eq_false_iff] at h
    obtain ⟨h1, h2⟩ := wmt_no j h.1
    refine ⟨h1, fun k hk => ?_⟩
    by_cases e : k = j
    · rw [e]; exact h.2
    · exact h2 k (by omega)
/-- A leaf is written. -/
theorem Tr.write {N : List (Hx × Px)} (lf : Hx) : ∀ (d : Nat) {h : Hx} {L : Nat → Hx} (i : Nat), Tr N d h L → i < 2 ^ d →
    (∀ k, k < d → clash (wpr N (sdv N (hhw N d i h) d i) d i lf k) (wjn (sdv N (hhw N d i h) d i) d i k (wlf (sdv N (hhw N d i h) d i) d i lf k)) = false) →
    Tr (wpr N (sdv N (hhw N d i h) d i) d i lf d) d (wlf (sdv N (hhw N d i h) d i) d i lf d) (put L i lf) ∧ Ext N (wpr N (sdv N (hhw N d i h) d i) d i lf d)
  | 0, h, L, i, t, hi, hc => by
    obtain rfl : i = 0 := by simpa using hi
    refine ⟨?_, Ext.refl _⟩
    show Wt.key lf = Wt.key (put L 0 lf 0)
    unfold put
    rw [if_pos rfl]
  | d + 1, h, L, i, t, hi, hc => by
    obtain ⟨p, h1, h2, h3, h4⟩ := t
    have hp2 : 2 ^ (d + 1) = 2 ^ d + 2 ^ d := by rw [Nat.pow_succ]; omega
    have h0 : 0 < 2 ^ d := Nat.pow_pos (by decide)
    have hb : i % 2 ^ d < 2 ^ d := Nat.mod_lt _ h0
    have hsd : ∀ j, j < d → sdv N (hhw N (d + 1) i h) (d + 1) i (j + 1) = sdv N (hhw N d (i % 2 ^ d) (hfb p (bt (d + 1) i 0))) d (i % 2 ^ d) j := fun j hj => by
      unfold sdv px
      rw [hhw_sub h1 d i j (by omega), bt_sub d i j hj]
    have hs0 : sdv N (hhw N (d + 1) i h) (d + 1) i 0 = hfb p (!bt (d + 1) i 0) := by
      unfold sdv px
      rw [hhw_zero, h1]
      rfl
    have hj : ∀ j, j < d → ∀ x, wjn (sdv N (hhw N (d + 1) i h) (d + 1) i) (d + 1) i j x = wjn (sdv N (hhw N d (i % 2 ^ d) (hfb p (bt (d + 1) i 0))) d (i % 2 ^ d)) d (i % 2 ^ d) j x := fun j hj x => by
      unfold wjn
      rw [show d + 1 - 1 - j = (d - 1 - j) + 1 from by omega, bt_sub d i (d - 1 - j) (by omega), hsd (d - 1 - j) (by omega)]
    have hcg := wup_cong N lf hj
    have hlast : ∀ x, wjn (sdv N (hhw N (d + 1) i h) (d + 1) i) (d + 1) i d x = if bt (d + 1) i 0 then jn (hfb p (!bt (d + 1) i 0)) x else jn x (hfb p (!bt (d + 1) i 0)) := fun x => by
      unfold wjn
      rw [show d + 1 - 1 - d = 0 from by omega, hs0]
    have hcd := hc d (Nat.lt_succ_self d)
    have hck : ∀ k, k < d → clash (wpr N (sdv N (hhw N d (i % 2 ^ d) (hfb p (bt (d + 1) i 0))) d (i % 2 ^ d)) d (i % 2 ^ d) lf k) (wjn (sdv N (hhw N d (i % 2 ^ d) (hfb p (bt (d + 1) i 0))) d (i % 2 ^ d)) d (i % 2 ^ d) k (wlf (sdv N (hhw N d (i % 2 ^ d) (hfb p (bt (d + 1) i 0))) d (i % 2 ^ d)) d (i % 2 ^ d) lf k)) = false := fun k hk => by
      have h9 := hc k (by omega)
      rw [(hcg k (by omega)).1, (hcg k (by omega)).2, hj k hk] at h9
      exact h9
    rw [wpr, wlf]
    rw [hlast, (hcg d (Nat.le_refl _)).1, (hcg d (Nat.le_refl _)).2] at hcd ⊢
    clear hcg hj hsd hs0 hlast hc
    rcases half_of d i hi with ⟨e1, e2, e3⟩ | ⟨e1, e2⟩
    · rw [e1] at hcd hck ⊢
      obtain ⟨k1, k2⟩ := Tr.write lf d (i % 2 ^ d) h3 hb hck
      generalize wlf (sdv N (hhw N d (i % 2 ^ d) (hfb p false)) d (i % 2 ^ d)) d (i % 2 ^ d) lf d = x at *
      generalize wpr N (sdv N (hhw N d (i % 2 ^ d) (hfb p false)) d (i % 2 ^ d)) d (i % 2 ^ d) lf d = N1 at *
      simp only [Bool.false_eq_true, if_false, Bool.not_false] at hcd ⊢
      have ke := Ext.put hcd
      have kj := hfb_jn x (hfb p true)
      refine ⟨⟨jn x (hfb p true), by rw [look_putM, if_pos rfl], rfl, Tr.key d kj.1.symm (Tr.cong d (fun m hm => ?_) (Tr.ext ke d k1)), Tr.key d kj.2.symm (Tr.cong d (fun m hm => ?_) (Tr.ext (k2.trans ke) d h4))⟩, k2.trans ke⟩
      · unfold put
        rw [e2]
      · unfold put
        rw [if_neg (by omega)]
    · rw [e1] at hcd hck ⊢
      obtain ⟨k1, k2⟩ := Tr.write lf d (i % 2 ^ d) h4 hb hck
      generalize wlf (sdv N (hhw N d (i % 2 ^ d) (hfb p true)) d (i % 2 ^ d)) d (i % 2 ^ d) lf d = x at *
      generalize wpr N (sdv N (hhw N d (i % 2 ^ d) (hfb p true)) d (i % 2 ^ d)) d (i % 2 ^ d) lf d = N1 at *
      simp only [if_true, Bool.not_true] at hcd ⊢
      have ke := Ext.put hcd
      have kj := hfb_jn (hfb p false) x
      refine ⟨⟨jn (hfb p false) x, by rw [look_putM, if_pos rfl], rfl, Tr.key d kj.1.symm (Tr.cong d (fun m hm => ?_) (Tr.ext (k2.trans ke) d h3)), Tr.key d kj.2.symm (Tr.cong d (fun m hm => ?_) (Tr.ext ke d k1))⟩, k2.trans ke⟩
      · unfold put
        rw [if_neg (by omega)]
      · unfold put
        show Wt.key (if m = i % 2 ^ d then lf else L (2 ^ d + m)) = Wt.key (if 2 ^ d + m = i then lf else L (2 ^ d + m))
        by_cases hm2 : m = i % 2 ^ d
        · rw [if_pos hm2, if_pos (by omega)]
        · rw [if_neg hm2, if_neg (by omega)]
section
variable {W y : World} {s t kb fb : Nat} {Ts Tt : Nat → Prop} {M N : List (Hx × Px)} {A B : List Hx} {met : Bool} {V : Value} {K : List Hx} {bx : List Bx}
theorem Gm.rwriteHit (H : Gm W s t kb fb Ts Tt M A N B met V K bx y) {D I : Nat} {rt : Hx} (lf : Hx) (hl : N.length + 17 < 1073741824) (hn : B.length + 17 < 1073741824) (hD : D ≤ 16) (hI : I < 2 ^ D) (hhas : ∀ j, j < D → has N (hhw N D I rt j) = true) :
    Calls Tryd.prog 25 #[.pointer (some ⟨t, 0, none⟩), .int .i64 D, dv rt, .int .i64 I, dv lf, .bool true] y fun e w' => (∃ v, e = .returned v) ∧ ∃ Tt' B', Gm W s t kb fb Ts Tt' M A (wpr N (sdv N (hhw N D I rt) D I) D I lf D) B' (wmt met N (sdv N (hhw N D I rt) D I) D I lf D) V K bx w' ∧ B'.length ≤ B.length + 17 := by
  have ho : OutW N D I rt lf (wlf (sdv N (hhw N D I rt) D I) D I lf D) 0 (-1) (fun A => askN A (hhw N D I rt) D) (wpr N (sdv N (hhw N D I rt) D I) D I lf D) (fun met => wmt met N (sdv N (hhw N D I rt) D I) D I lf D) :=
    .inr ⟨D, I, D, rfl, rfl, hD, hI, Nat.le_refl _, hhas, .inl rfl, fun _ => ⟨rfl, rfl, rfl, rfl, rfl, rfl⟩, fun h => absurd h (Nat.lt_irrefl _)⟩
  refine (H.rwrite ho hl hn).mono ?_
  rintro e w' ⟨z, he, T', h1, _⟩
  refine ⟨⟨_, he⟩, T', _, h1, ?_⟩
  have := askN_len B (hhw N D I rt) D
  show (askN B (hhw N D I rt) D).length ≤ _
  omega
theorem Gm.lt (H : Gm W s t kb fb Ts Tt M A N B met V K bx y) {b : Bx} (hb : b ∈ bx) : b.q < y.heap.size := (H.bx b hb).1.lt
/-- The two stores, with boxes made between them. -/
theorem Gm.start2 {y1 y4 y5 : World} (ht : Laid.KTab W) (hg : Et W) (h1 : IsSt y1 Ts s kb fb nw) (b1 : Below W.heap.size W y1) (h2 : ∀ j, Foot Ts kb fb j → W.heap.size ≤ j) (h3 : ∀ j, Ts j → j < y1.heap.size) (b2 : Below y1.heap.size y1 y4) (h4 : IsR y5 Tt t ⟨zs 16, []⟩ false) (h5 : ∀ j, Tt j → y4.heap.size ≤ j ∧ j < y5.heap.size) (b3 : Below y4.heap.size y4 y5)
    (hb : ∀ b, b ∈ bx → IsTab y5 b.q b.t b.n b.g ∧ y1.heap.size ≤ b.q ∧ b.q < y4.heap.size) : Gm W s t kb fb Ts Tt (zs 16) [] (zs 16) [] false (.slice none 0 0) [] bx y5 := by
  have z0 := b1.size
  have z1 := b2.size
  have z2 := b3.size
  have hk := h1.kin.lt
  refine ⟨(h1.below b2).below b3, h4, World.ownsRow_nil _ _ _ _, fun j h => ⟨h2 j (.inl h), by have := h3 j h; omega⟩, fun j h => ⟨by have := (h5 j h).1; omega, (h5 j h).2⟩, fun j h h' => by have := h3 j h; have := (h5 j h').1; omega, ⟨h2 kb (.inr (.inl rfl)), by omega, fun h => by have := (h5 kb h).1; omega⟩, ⟨h2 fb (.inr (.inr rfl)), by omega, fun h => by have := (h5 fb h).1; omega⟩, fun j e => (by cases e), fun b hm => ?_, bl (bl b1 b2) b3, ht, hg, lowB_le ht⟩
  obtain ⟨g1, g2, g3⟩ := hb b hm
  exact ⟨g1, by omega, fun h => by have := h3 _ h; omega, fun h => by have := (h5 _ h).1; omega, by omega, by omega, fun e => by cases e⟩
end
theorem exec_allocH (ev : Operand → Value) (o : Oper) (y : World) (ho : o.op = .alloc 39) : (execOp ev o).run Tryd.prog y = .ok (.value (.pointer (some ⟨y.heap.size, 0, none⟩))) (y.alloc (.cells (tab 32 fun _ => bv 0#8) 39)) := by
  unfold execOp
  rw [ho]
  simp [Instr.alloc, go_sem, zeroHash, Result.andThen]
  rfl
theorem u64_modn (d : Int) (m : Nat) (hm : 0 < m) : ∃ k : Nat, (IntKind.u64.wrap d).tmod (m : Int) = (k : Int) ∧ k < m := by
  have e : IntKind.u64.wrap d = d % 18446744073709551616 := IntKind.wrap_u64 d
  have h0 : 0 ≤ d % 18446744073709551616 := Int.emod_nonneg _ (by decide)
  have h1 := Int.emod_nonneg (d % 18446744073709551616) (show (m : Int) ≠ 0 by omega)
  have h2 := Int.emod_lt_of_pos (d % 18446744073709551616) (show (0 : Int) < m by omega)
  refine ⟨((IntKind.u64.wrap d).tmod m).toNat, ?_, ?_⟩
  · rw [e, Int.tmod_eq_emod_of_nonneg h0]; omega
  · rw [e, Int.tmod_eq_emod_of_nonneg h0]; omega
/-- The cells of a leaf and its place. -/
def pt (a : Int) (lf : Hx) : Nat → Value
  | 0 => .int .i64 a
  | j + 1 => bv (lf j)
theorem pt_one (a : Int) (lf : Hx) : (tab 33 (pt a lf)).all (·.oneCell') = true := tab_one fun i => by cases i <;> rfl
theorem undPut : Tryd.prog.underlying 67 = some (.struct (Tryd.prog.fieldsOf 67)) := by kernel_rfl
theorem infPut' : (Tryd.prog.info? 67).map (·.size) = some 33 := by kernel_rfl
theorem infPut (g : Nat → Value) : (Tryd.prog.info? 67).map (·.size) = some (tab 33 g).size := by rw [tab_size]; exact infPut'
theorem zeroPut (w : World) : (zeroValue 67).run Tryd.prog w = .ok (.agg (tab 33 (pt 0 fun _ => 0#8))) w := by kernel_rfl
theorem loadPut {w : World} {b o : Nat} {a : Int} {lf : Hx} (h0 : w.cell? ⟨b, o, none⟩ = some (.int .i64 a)) (h : ∀ j, j < 32 → w.cell? ⟨b, o + 1 + j, none⟩ = some (bv (lf j))) : (Instr.loadAt 67 (.pointer (some ⟨b, o, none⟩))).run Tryd.prog w = .ok (.agg (tab 33 (pt a lf))) w := by
  refine run_loadAt_mid w b o _ ((List.range 33).map (pt a lf)) _ (fun i v hv => ?_) undPut rfl (by rw [infPut']; rfl)
  have hi : i < 33 := by
    have := (List.getElem?_eq_some_iff.1 hv).1
    simpa using this
  have hv2 : v = pt a lf i := by
    rw [List.getElem?_map, List.getElem?_range hi] at hv
    simpa using hv.symm
  subst hv2
  cases i with
  | zero => exact h0
  | succ j => have := h j (by omega); rwa [show o + (j + 1) = o + 1 + j from by omega]
theorem loadLf {w : World} {b : Nat} {a : Int} {lf : Hx} {T : Nat} (h : IsTab w b T 33 (pt a lf)) : (Instr.loadAt 28 (.pointer (some ⟨b, 1, none⟩))).run Tryd.prog w = .ok (.agg (tab 32 fun i => bv (lf i))) w := by
  have h5 : At5 w b 1 1 fun _ => lf := fun k j hk hj => by
    obtain rfl : k = 0 := by omega
    have := h.cell (1 + j) (by omega)
    rw [show 1 + 32 * 0 + j = 1 + j from by omega, this, Nat.add_comm 1 j]
    rfl
  exact loadR h5 (k := 0) (by decide) (by decide)
theorem isr_met {w : World} {T : Nat → Prop} {r : Nat} {S : Sto} {met : Bool} (h : IsR w T r S met) : w.cell? ⟨r, 3, none⟩ = some (.bool met) := by
  obtain ⟨_, _, _, h⟩ := h
  exact h.box.k3
theorem meas_nw {i k : Nat} (h : i + 1 ≤ k) : k - (intOf (.int .i64 ((i : Int) + 1))).toNat < k - (intOf (.int .i64 (i : Int))).toNat := by
  show k - (i + 1) < k - i
  omega
/-- What the loop keeps. -/
def Lt (W : World) (s t kb fb D q6 q10 q11 ql n2 : Nat) (zD : Hx) (n : Nat) (y : World) : Prop := ∃ Ts Tt M A N B, ∃ (rt od : Hx) (f : Nat → Hx), Gm W s t kb fb Ts Tt M A N B false (.slice none 0 0) [] [⟨q6, 39, 32, fun i => bv (rt i)⟩, ⟨q10, 39, 32, fun i => bv (od i)⟩, ⟨q11, 39, 32, fun i => bv (zD i)⟩, ⟨ql, 39, 32 * n2, hc f⟩] y ∧ Alike M N ∧ Tr N D rt f ∧ Tr N D zD (fun _ => Mk.zero 0) ∧ N.length ≤ 16 + 17 * n ∧ A.length ≤ 51 * n ∧ B.length ≤ 17 * n

end Wt
end Go.Proofs.YtdmffnjbholkkaaDoor
namespace Go.Proofs.YtdmffnjbholkkaaDoor
open Go.ChangeShapes Go.WideShapes Go.Deep Go.RowKit
set_option linter.unusedVariables false
namespace Wt
open Kc Mk
section
variable {H : Type} {enc : TypeId × Value → H} {P : Program} {w : World} {base : Nat} {spare : Nat → Bool} {held : Bool}
def byteOf (w : World) (b o : Nat) : Bt := match w.cell? ⟨b, o, none⟩ with
  | some (.int _ z) => bof z
  | _ => 0#8
theorem puts_of {t e u : TypeId} {fs : Array Field} {a0 : Option Addr} {l0 c0 : Nat} {d : DataW H} {ps : List MemPlace} (ht : P.underlying t = some (.slice e)) (he : P.underlying e = some (.struct fs)) (hu : P.underlying u = some (.int .u8))
    (hf0 : ∃ F : Field, fs[0]? = some F ∧ F.offset = 0 ∧ P.underlying F.type = some (.int .i64) ∧ P.cellsOf F.type = 1)
    (hf1 : ∃ F : Field, fs[1]? = some F ∧ F.offset = 1 ∧ P.underlying F.type = some (.array 32 u) ∧ P.cellsOf F.type = 32)
    (hC : P.cellsOf e = 33) (hCu : P.cellsOf u = 1) (h : DataW.Trod enc P w base spare held t (.slice a0 l0 c0) d ps) :
    l0 ≤ maxLen ∧ ∀ i, i < l0 → ∃ c off, ∃ (a : Int) (lf : Hx), a0 = some ⟨c, off, none⟩ ∧ w.cell? ⟨c, off + i * 33, none⟩ = some (.int .i64 a) ∧ ∀ j, j < 32 → w.cell? ⟨c, off + i * 33 + 1 + j, none⟩ = some (bv (lf j)) := by
  obtain ⟨F0, f0, p0, u0, n0⟩ := hf0
  obtain ⟨F1, f1, p1, u1, n1⟩ := hf1
  obtain ⟨fuel, hf⟩ := h
  rcases open_slice ht hf with ⟨h0, _⟩ | ⟨a, len, cap, m, n, D, Pl, hcs, _, hl, hm, hmm, _, hi⟩
  · have h1 : a0 = none ∧ l0 = 0 ∧ c0 = 0 := by simpa [Value.cells] using h0
    obtain ⟨rfl, rfl, rfl⟩ := h1
    exact ⟨by decide, fun i hi => by omega⟩
  · have hva : a0 = some a ∧ l0 = len ∧ c0 = cap := by simpa [Value.cells] using hcs
    obtain ⟨rfl, rfl, rfl⟩ := hva
    refine ⟨Nat.le_trans hl hm, ?_⟩
    have elem : ∀ i, i < l0 → ∃ z : Int, w.cell? (a.add (i * 33 + 0)) = some (.int .i64 z) ∧ ∀ j, j < 32 → ∃ x : Int, w.cell? (a.add (i * 33 + (1 + j))) = some (.int .u8 x) ∧ (Lit.int .u8 x).wf = true := by
     intro i hil
     have him : i < m := by rw [hmm]; split <;> omega
     obtain ⟨cs, hc, htr⟩ := hi i him
     rw [hC] at hc
     obtain ⟨_, hlen, hat⟩ := World.cells?_some hc
     obtain ⟨ys, n', _, _, _, _, hg⟩ := DataW.trod_struct he htr
     have g0 := hg 0 F0 f0
     have g1 := hg 1 F1 f1
     rw [p0, n0] at g0
     rw [p1, n1] at g1
     have hy : ∀ k F, fs[k]? = some F → ∃ y, ys[k]? = some y := fun k F hk => by
       have := (Array.getElem?_eq_some_iff.1 hk).1
       exact ⟨_, List.getElem?_eq_getElem (by omega)⟩
     obtain ⟨y0, hy0⟩ := hy 0 F0 f0
     obtain ⟨y1, hy1⟩ := hy 1 F1 f1
     rw [hy0] at g0
     rw [hy1] at g1
     have e0 : (cs.drop 0).take 1 = [cs[0]] := by rw [List.drop_zero, List.take_one]; cases cs with
       | nil => simp at hlen
       | cons x r => rfl
     rw [e0] at g0
     obtain ⟨z, hz, _, _⟩ := DataW.trod_int u0 g0
     have hz0 : cs[0] = .int .i64 z := by simpa using hz
     have hcell := hat 0 (by decide)
     rw [List.getElem?_eq_getElem (by omega), hz0, add_add] at hcell
     obtain ⟨xs, m', _, _, hlen', hx, hel⟩ := DataW.trod_array u1 g1
     have key : ∀ j, j < 32 → ∃ z : Int, w.cell? (a.add (i * 33 + (1 + j))) = some (.int .u8 z) ∧ (Lit.int .u8 z).wf = true := by
       intro j hj
       have e1 := hel j hj
       rw [hCu, Nat.mul_one, List.getElem?_eq_getElem (by omega)] at e1
       obtain ⟨z, e2, _, e3⟩ := DataW.trod_int hu e1
       refine ⟨z, ?_, e3⟩
       have h9 : ((((cs.drop 1).take 32).drop j).take 1)[0]? = some (.int .u8 z) := by rw [e2]; rfl
       have h8 : cs[1 + j]? = some (.int .u8 z) := by
         rw [List.getElem?_take, if_pos (by decide), List.getElem?_drop, List.getElem?_take, if_pos (by omega), List.getElem?_drop] at h9
         simpa using h9
       have hcell := hat (1 + j) (by omega)
       rw [h8, add_add] at hcell
       exact hcell
     exact ⟨z, hcell, key⟩
    intro i hil
    obtain ⟨b, off, spot⟩ := a
    have hspot : spot = none := by
      obtain ⟨z, hz, _⟩ := elem 0 (by omega)
      simpa [Addr.add] using World.cell?_spot hz
    subst hspot
    obtain ⟨z, hcell, key⟩ := elem i hil
    rw [add_at, Nat.add_zero] at hcell
    refine ⟨b, off, z, fun j => byteOf w b (off + i * 33 + 1 + j), rfl, hcell, fun j hj => ?_⟩
    obtain ⟨x, hx1, hw⟩ := key j hj
    rw [add_at, show off + (i * 33 + (1 + j)) = off + i * 33 + 1 + j from by omega] at hx1
    have hb := wf_u8 hw
    rw [hx1]
    show some (Value.int .u8 x) = some (bv (byteOf w b (off + i * 33 + 1 + j)))
    unfold byteOf bv
    rw [hx1]
    show _ = some (Value.int .u8 (Bv (bof x)))
    rw [Bv_bof hb.1 hb.2]
end
theorem puts_in {H : Type} {enc : TypeId × Value → H} {w : World} {base : Nat} {spare : Nat → Bool} {held : Bool} {a0 : Option Addr} {l0 c0 : Nat} {d : DataW H} {ps : List MemPlace} (h : DataW.Trod enc Tryd.prog w base spare held 64 (.slice a0 l0 c0) d ps) :
    l0 ≤ maxLen ∧ ∀ i, i < l0 → ∃ c off, ∃ (a : Int) (lf : Hx), a0 = some ⟨c, off, none⟩ ∧ w.cell? ⟨c, off + i * 33, none⟩ = some (.int .i64 a) ∧ ∀ j, j < 32 → w.cell? ⟨c, off + i * 33 + 1 + j, none⟩ = some (bv (lf j)) :=
  puts_of Tryd.underlying64 Tryd.underlying67 (u := 5) (by kernel_rfl) ⟨_, rfl, rfl, by kernel_rfl, by kernel_rfl⟩ ⟨_, rfl, rfl, by kernel_rfl, by kernel_rfl⟩ (by kernel_rfl) (by kernel_rfl) h
end Wt
end Go.Proofs.YtdmffnjbholkkaaDoor
