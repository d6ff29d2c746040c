/- Merged. Own work. -/
import Derived.Test.YtdmffnjbholkkaaDoorHd
import Derived.Deep.DeepCutAuto
import Derived.Deep.CutBlock
namespace Go.Proofs.YtdmffnjbholkkaaDoor
open Go.RowKit
set_option linter.unusedVariables false
set_option linter.unusedSimpArgs false
set_option linter.unusedVariables false
set_option linter.unusedSimpArgs false
namespace Wt
open Kc Mk
/-- A digest that is its preimage's. -/
def Good (N : List (Hx × Px)) (h : Hx) : Prop := ∃ p, look N h = some p ∧ Wt.key h = Wt.key (hs p)
theorem Tr.good {N : List (Hx × Px)} : ∀ (d : Nat) {h : Hx} {L : Nat → Hx} (i : Nat), Tr N d h L → i < 2 ^ d → ∀ j, j < d → Good N (hhw N d i h j)
  | 0, h, L, i, t, hi, j, hj => by omega
  | d + 1, h, L, i, t, hi, j, hj => by
    obtain ⟨p, h1, h2, h3, h4⟩ := t
    have hb : i % 2 ^ d < 2 ^ d := Nat.mod_lt _ (Nat.pow_pos (by decide))
    cases j with
    | zero => rw [hhw_zero]; exact ⟨p, h1, h2⟩
    | succ j =>
      rw [hhw_sub h1 d i j (by omega)]
      rcases half_of d i hi with ⟨e1, e2, _⟩ | ⟨e1, e2⟩
      · rw [e1]; exact Tr.good d (i % 2 ^ d) h3 hb j (by omega)
      · rw [e1]; exact Tr.good d (i % 2 ^ d) h4 hb j (by omega)
theorem look_drop (x y : Hx) : ∀ M : List (Hx × Px), look (dropM M x) y = if Wt.key y = Wt.key x then none else look M y
  | [] => by
    show (none : Option Px) = _
    split <;> rfl
  | q :: M => by
    have ih := look_drop x y M
    unfold dropM at ih ⊢
    rw [List.filter_cons]
    by_cases e : Wt.key q.1 = Wt.key x
    · have e1 : ¬ (!(Wt.key q.1 == Wt.key x)) = true := by simp [e]
      rw [if_neg e1, ih, look_cons]
      by_cases e2 : Wt.key y = Wt.key x
      · simp [e2]
      · have e3 : ¬ Wt.key q.1 = Wt.key y := fun h => e2 (h.symm.trans e)
        simp [e2, e3]
    · have e1 : (!(Wt.key q.1 == Wt.key x)) = true := by simp [e]
      rw [if_pos e1, look_cons, look_cons, ih]
      by_cases e2 : Wt.key y = Wt.key x
      · have e3 : ¬ Wt.key q.1 = Wt.key y := fun h => e (h.trans e2)
        simp [e2, e]
      · simp [e2]
theorem has_iff (M : List (Hx × Px)) (h : Hx) : has M h = true ↔ ∃ p, look M h = some p := by rw [← look_has, Option.isSome_iff_exists]
theorem has_key {M : List (Hx × Px)} {h h' : Hx} (e : Wt.key h = Wt.key h') : has M h = has M h' := by rw [← look_has, ← look_has, look_key e]
theorem Ext.drop {M N : List (Hx × Px)} (h : Ext M N) (x : Hx) : Ext (dropM M x) N := fun y p e => by
  rw [look_drop] at e
  by_cases k : Wt.key y = Wt.key x
  · rw [if_pos k] at e; cases e
  · rw [if_neg k] at e; exact h y p e
/-- A preimage more of what the whole has. -/
theorem Ext.more {M N : List (Hx × Px)} (he : Ext M N) {h : Hx} {p q : Px} (hq : look N h = some q) (hk : Wt.key h = Wt.key (hs q)) (hp : pre p = pre q) : Ext (putM M (hs p) p) N ∧ has (putM M (hs p) p) h = true ∧ Ext M (putM M (hs p) p) := by
  have e0 : hs p = hs q := hs_pre hp
  have e1 : look N (hs p) = some q := by rw [e0, ← look_key (M := N) hk]; exact hq
  refine ⟨fun y r e => ?_, ?_, fun y r e => ?_⟩
  · rw [look_putM] at e
    by_cases k : Wt.key (hs p) = Wt.key y
    · rw [if_pos k] at e
      obtain rfl : p = r := by simpa using e
      exact ⟨q, by rw [← look_key (M := N) k]; exact e1, hp.symm⟩
    · rw [if_neg k] at e
      exact he y r e
  · rw [has_iff, look_putM, if_pos (by rw [e0]; exact hk.symm)]
    exact ⟨p, rfl⟩
  · rw [look_putM]
    by_cases k : Wt.key (hs p) = Wt.key y
    · rw [if_pos k]
      obtain ⟨s, h1, h2⟩ := he y r e
      rw [← look_key (M := N) k, e1] at h1
      obtain rfl : q = s := by simpa using h1
      exact ⟨p, rfl, hp.trans h2⟩
    · rw [if_neg k]
      exact ⟨r, e, rfl⟩
theorem Ext.has {M N : List (Hx × Px)} (he : Ext M N) {h : Hx} (hh : Wt.has M h = true) : Wt.has N h = true := by
  obtain ⟨p, hp⟩ := (has_iff M h).1 hh
  obtain ⟨q, hq, _⟩ := he h p hp
  exact (has_iff N h).2 ⟨q, hq⟩
/-- The way by a part is the way by the whole, as far as the part has it. -/
theorem way_ext {M N : List (Hx × Px)} (he : Ext M N) (D I : Nat) (rt : Hx) : ∀ k, (∀ j, j < k → Wt.has M (hhw N D I rt j) = true) → (∀ j, j < k → Wt.has M (hhw M D I rt j) = true) ∧ Wt.key (hhw M D I rt k) = Wt.key (hhw N D I rt k)
  | 0, _ => ⟨fun j hj => by omega, rfl⟩
  | k + 1, h => by
    obtain ⟨h1, h2⟩ := way_ext he D I rt k fun j hj => h j (by omega)
    have h3 : Wt.has M (hhw M D I rt k) = true := (has_key h2).trans (h k (by omega))
    obtain ⟨p, hp⟩ := (has_iff M _).1 h3
    obtain ⟨q, hq, hpq⟩ := he _ p hp
    refine ⟨fun j hj => ?_, ?_⟩
    · by_cases e : j = k
      · rw [e]; exact h3
      · exact h1 j (by omega)
    · show Wt.key (hfb ((look M (hhw M D I rt k)).getD zp) (bt D I k)) = Wt.key (hfb ((look N (hhw N D I rt k)).getD zp) (bt D I k))
      rw [hp, ← look_key (M := N) h2, hq]
      exact (hfb_key hpq _).symm
/-- Behind a drop: the way misses where it meets what was dropped, and is the same else. -/
theorem drop_way {M N : List (Hx × Px)} (he : Ext M N) (D I : Nat) (rt x : Hx) (h : ∀ j, j < D → Wt.has M (hhw N D I rt j) = true) :
    ∃ k, k ≤ D ∧ (∀ j, j < k → Wt.has (dropM M x) (hhw (dropM M x) D I rt j) = true) ∧ (k = D ∨ Wt.has (dropM M x) (hhw (dropM M x) D I rt k) = false) ∧ (k < D ↔ ∃ j, j < D ∧ Wt.key (hhw N D I rt j) = Wt.key x) ∧ (k = D → Wt.key (hhw (dropM M x) D I rt D) = Wt.key (hhw N D I rt D)) := by
  have hd : ∀ y, Wt.has (dropM M x) y = (!decide (Wt.key y = Wt.key x) && Wt.has M y) := fun y => by
    rw [← look_has, look_drop]
    by_cases e : Wt.key y = Wt.key x
    · simp [e]
    · simp [e, look_has]
  have first : ∀ n, n ≤ D → (∃ k, k ≤ n ∧ (∀ j, j < k → ¬ Wt.key (hhw N D I rt j) = Wt.key x) ∧ (k = n ∨ Wt.key (hhw N D I rt k) = Wt.key x)) := by
    intro n
    induction n with
    | zero => exact fun _ => ⟨0, Nat.le_refl _, fun j hj => by omega, .inl rfl⟩
    | succ n ih =>
      intro hn
      obtain ⟨k, h1, h2, h3⟩ := ih (by omega)
      rcases h3 with rfl | h3
      · by_cases e : Wt.key (hhw N D I rt k) = Wt.key x
        · exact ⟨k, by omega, h2, .inr e⟩
        · refine ⟨k + 1, Nat.le_refl _, fun j hj => ?_, .inl rfl⟩
          by_cases e2 : j = k
          · rw [e2]; exact e
          · exact h2 j (by omega)
      · exact ⟨k, by omega, h2, .inr h3⟩
  obtain ⟨k, h1, h2, h3⟩ := first D (Nat.le_refl _)
  have hw := way_ext (he.drop x) D I rt k fun j hj => by rw [hd, h j (by omega)]; simp [h2 j hj]
  refine ⟨k, h1, hw.1, ?_, ⟨fun hk => ?_, fun ⟨j, hj, e⟩ => ?_⟩, fun e => ?_⟩
  · rcases h3 with h3 | h3
    · exact .inl h3
    · right
      rw [has_key hw.2, hd]
      simp [h3]
  · exact ⟨k, hk, h3.resolve_left (by omega)⟩
  · rcases Nat.lt_or_ge k D with h4 | h4
    · exact h4
    · exact absurd e (h2 j (by omega))
  · subst e; exact hw.2
/-! ## what was asked -/
theorem asks_iff (A : List Hx) (h : Hx) : asks A h = true ↔ ∃ a, a ∈ A ∧ Wt.key a = Wt.key h := by
  unfold asks un Wt.has
  rw [List.any_map, List.any_eq_true]
  constructor
  · rintro ⟨a, h1, h2⟩; exact ⟨a, h1, by simpa using h2⟩
  · rintro ⟨a, h1, h2⟩; exact ⟨a, h1, by simpa using h2⟩
theorem askL_mem {A : List Hx} {h x : Hx} (hx : x ∈ askL A h) : x ∈ A ∨ x = h := by
  unfold askL at hx
  split at hx
  · exact .inl hx
  · simpa using hx
theorem askL_sub {A : List Hx} (h : Hx) {x : Hx} (hx : x ∈ A) : x ∈ askL A h := by
  unfold askL
  split
  · exact hx
  · simp [hx]
theorem askL_has (A : List Hx) (h : Hx) : ∃ a, a ∈ askL A h ∧ Wt.key a = Wt.key h := by
  unfold askL
  split
  · rename_i e; exact (asks_iff A h).1 e
  · exact ⟨h, by simp, rfl⟩
theorem askN_mem {A : List Hx} {hh : Nat → Hx} {x : Hx} : ∀ n, x ∈ askN A hh n → x ∈ A ∨ ∃ j, j < n ∧ x = hh j
  | 0, h => .inl h
  | n + 1, h => by
    rcases askL_mem h with h1 | h1
    · rcases askN_mem n h1 with h2 | ⟨j, h2, h3⟩
      · exact .inl h2
      · exact .inr ⟨j, by omega, h3⟩
    · exact .inr ⟨n, by omega, h1⟩
theorem askN_sub {A : List Hx} (hh : Nat → Hx) {x : Hx} (hx : x ∈ A) : ∀ n, x ∈ askN A hh n
  | 0 => hx
  | n + 1 => askL_sub _ (askN_sub hh hx n)
theorem askN_has (A : List Hx) (hh : Nat → Hx) : ∀ n j, j < n → ∃ a, a ∈ askN A hh n ∧ Wt.key a = Wt.key (hh j)
  | n + 1, j, hj => by
    by_cases e : j = n
    · rw [e]; exact askL_has _ _
    · obtain ⟨a, h1, h2⟩ := askN_has A hh n j (by omega)
      exact ⟨a, askL_sub _ h1, h2⟩
theorem Alike.symm {M N : List (Hx × Px)} (h : Alike M N) : Alike N M := Eq.symm h
section
variable {W y : World} {s t kb fb : Nat} {Ts Tt : Nat → Prop} {M N : List (Hx × Px)} {A B : List Hx} {met : Bool} {V : Value} {K : List Hx} {bx : List Bx}
/-- A read, as far as it comes. -/
theorem Gm.readK (H : Gm W s t kb fb Ts Tt M A N B met V K bx y) {D I k : Nat} {rt : Hx} (hn : A.length + 17 < 1073741824) (hD : D ≤ 16) (hI : I < 2 ^ D) (hk : k ≤ D) (hhas : ∀ j, j < k → has M (hhw M D I rt j) = true) (hend : k = D ∨ has M (hhw M D I rt k) = false) :
    Calls Tryd.prog 24 #[.pointer (some ⟨s, 0, none⟩), .int .i64 D, dv rt, .int .i64 I] y fun e w' => ∃ x E, e = .returned (.tuple #[dv x, E]) ∧
      (k = D → x = hhw M D I rt D ∧ E = .nilIface) ∧
      (k < D → ∃ q, E = .iface 156 (.pointer (some ⟨q, 0, none⟩)) ∧ w'.cell? ⟨q, 0, none⟩ = some (.int .i64 k) ∧ w'.cell? ⟨q, 1, none⟩ = some (.iface 62 (.int .i64 14)) ∧ y.heap.size ≤ q) ∧
      ∃ Ts', Gm W s t kb fb Ts' Tt M (askN A (hhw M D I rt) (if k < D then k + 1 else D)) N B met V K bx w' ∧ (∀ j, Ts' j → (Ts j ∨ y.heap.size ≤ j) ∧ j < w'.heap.size) ∧ Kept Ts y w' := by
  have h := read_walk Ts s kb fb M A D I k (hhw M D I rt) y H.st H.tsl hn hD hI hk (fun j _ y hy => hhw_step (Alike.refl M) D I rt j y hy) hhas hend
  rw [hhw_zero] at h
  refine h.mono ?_
  rintro e w' ⟨x, E, he, T', hR⟩
  refine ⟨x, E, he, hR.hit, fun hkd => ?_, T', H.prog hR.st hR.tt (foot_of hR.kp), hR.tt, hR.kp⟩
  obtain ⟨_, q, hE, c0, c1, _, hq⟩ := hR.miss hkd
  exact ⟨q, hE, c0, c1, hq⟩
theorem Gm.asked2 (H : Gm W s t kb fb Ts Tt M A N B met V K bx y) : Calls Tryd.prog 27 #[.pointer (some ⟨s, 0, none⟩)] y fun e w' => ∃ av, e = .returned av ∧ w'.ownsRow 0 39 32 av A.length (fl A) ∧ (∀ k, av.ownBlock = some k → Ts k ∧ k ≠ s) ∧ Gm W s t kb fb Ts Tt M [] N B met V K bx w' ∧ Kept Ts y w' :=
  (asked_walk Ts s kb fb ⟨M, A⟩ y H.st).mono fun e w' ⟨av, he, h1, h0, h2, h3⟩ => by
    have hts : Kept Ts y w' := h3.mono fun j _ hj => by
      obtain ⟨pb, av, sv, ho⟩ := H.st.own
      exact hj ▸ ho.ts
    exact ⟨av, he, h1, h0, H.prog h2 (fun j hj => ⟨.inl hj, Nat.lt_of_lt_of_le (H.tsl j hj) h3.size⟩) (foot_of hts), hts⟩
/-- What lies beside what is written stays. -/
theorem Gm.carry {y' : World} {U : Nat → Prop} (H : Gm W s t kb fb Ts Tt M A N B met V K bx y) (hk : Kept U y y') (hU : ∀ k, U k → W.heap.size ≤ k ∧ ¬ Ts k ∧ ¬ Tt k ∧ k ≠ kb ∧ k ≠ fb ∧ V.ownBlock ≠ some k ∧ ∀ b, b ∈ bx → b.q ≠ k) : Gm W s t kb fb Ts Tt M A N B met V K bx y' := by
  have hW := H.below.size
  have hz := hk.size
  refine ⟨H.st.kept hk (fun j h1 h2 => (hU j h2).2.1 h1) (fun h => (hU _ h).2.2.2.1 rfl) (fun h => (hU _ h).2.2.2.2.1 rfl), H.ro.kept hk fun j h1 h2 => (hU j h2).2.2.1 h1, hk.row H.row fun k e h => (hU k h).2.2.2.2.2.1 e, fun j h => ⟨(H.ts j h).1, by have := (H.ts j h).2; omega⟩, fun j h => ⟨(H.tt j h).1, by have := (H.tt j h).2; omega⟩, H.dj, ⟨H.k1.1, by have := H.k1.2.1; omega, H.k1.2.2⟩, ⟨H.k2.1, by have := H.k2.2.1; omega, H.k2.2.2⟩, H.vs, fun b hb => ?_, H.below.trans (hk.below (by omega) fun k _ h => (hU k h).1), H.kt, H.et, H.lo⟩
  have h1 := H.bx b hb
  exact ⟨Wt.IsTab.kept h1.1 hk fun h => (hU _ h).2.2.2.2.2.2 b hb rfl, h1.2⟩
end
/-- What is known of some blocks alone. -/
def Beside (F : Nat → Prop) (P : World → Prop) : Prop := ∀ (U : Nat → Prop) (y y' : World), P y → Kept U y y' → (∀ k, F k → ¬ U k) → P y'
structure Ew (W : World) (s t kb fb : Nat) (Ts Tt : Nat → Prop) (M : List (Hx × Px)) (A : List Hx) (N : List (Hx × Px)) (B : List Hx) (V : Value) (n : Nat) (g : Nat → Hx) (F : Nat → Prop) (P : World → Prop) (bx : List Bx) (y : World) : Prop where
  gm : Gm W s t kb fb Ts Tt M A N B false (.slice none 0 0) [] bx y
  sd : P y
  be : Beside F P
  fr : ∀ j, F j → j < y.heap.size ∧ ¬ Ts j ∧ ∀ b, b ∈ bx → b.q ≠ j
  row : y.ownsRow W.heap.size 39 32 V n (flat n g)
  vs : ∀ j, V.ownBlock = some j → ¬ Ts j ∧ ¬ Tt j ∧ j ≠ kb ∧ j ≠ fb ∧ ¬ F j ∧ ∀ b, b ∈ bx → b.q ≠ j
section
variable {W y y' : World} {s t kb fb n : Nat} {Ts Tt F : Nat → Prop} {P : World → Prop} {M N : List (Hx × Px)} {A B : List Hx} {V : Value} {g : Nat → Hx} {bx : List Bx}
theorem Ew.next (H : Ew W s t kb fb Ts Tt M A N B V n g F P bx y) (hb : Below y.heap.size y y') : Ew W s t kb fb Ts Tt M A N B V n g F P bx y' :=
  ⟨H.gm.next hb, H.be (fun _ => False) y y' H.sd (Kept.ofBelow hb) (fun _ _ h => h), H.be, fun j h => ⟨Nat.lt_of_lt_of_le (H.fr j h).1 hb.size, (H.fr j h).2⟩, (Kept.ofBelow (S := fun _ => False) hb).row H.row (fun _ _ h => h), H.vs⟩
theorem Ew.sub {bx' : List Bx} (H : Ew W s t kb fb Ts Tt M A N B V n g F P bx y) (h : ∀ b, b ∈ bx' → b ∈ bx) : Ew W s t kb fb Ts Tt M A N B V n g F P bx' y :=
  ⟨H.gm.sub h, H.sd, H.be, fun j hj => ⟨(H.fr j hj).1, (H.fr j hj).2.1, fun b hb => (H.fr j hj).2.2 b (h b hb)⟩, H.row, fun j e => ⟨(H.vs j e).1, (H.vs j e).2.1, (H.vs j e).2.2.1, (H.vs j e).2.2.2.1, (H.vs j e).2.2.2.2.1, fun b hb => (H.vs j e).2.2.2.2.2 b (h b hb)⟩⟩
theorem Ew.alloc (H : Ew W s t kb fb Ts Tt M A N B V n g F P bx y) (T m : Nat) (f : Nat → Value) : Ew W s t kb fb Ts Tt M A N B V n g F P (⟨y.heap.size, T, m, f⟩ :: bx) (y.alloc (.cells (tab m f) T)) := by
  have h := H.next (ba y (.cells (tab m f) T))
  refine ⟨H.gm.alloc T m f, h.sd, h.be, fun j hj => ⟨(h.fr j hj).1, (h.fr j hj).2.1, fun b hb => ?_⟩, h.row, fun j e => ⟨(h.vs j e).1, (h.vs j e).2.1, (h.vs j e).2.2.1, (h.vs j e).2.2.2.1, (h.vs j e).2.2.2.2.1, fun b hb => ?_⟩⟩
  · rcases List.mem_cons.1 hb with rfl | hb
    · have := (H.fr j hj).1
      show y.heap.size ≠ j
      omega
    · exact (h.fr j hj).2.2 b hb
  · rcases List.mem_cons.1 hb with rfl | hb
    · have := own_lt H.row e
      show y.heap.size ≠ j
      omega
    · exact (h.vs j e).2.2.2.2.2 b hb
/-- Behind a read. -/
theorem Ew.step {Ts' : Nat → Prop} {A' : List Hx} (H : Ew W s t kb fb Ts Tt M A N B V n g F P bx y) (hg : Gm W s t kb fb Ts' Tt M A' N B false (.slice none 0 0) [] bx y') (ht : ∀ j, Ts' j → (Ts j ∨ y.heap.size ≤ j) ∧ j < y'.heap.size) (hk : Kept Ts y y') : Ew W s t kb fb Ts' Tt M A' N B V n g F P bx y' := by
  have hz := hk.size
  have new : ∀ j, j < y.heap.size → ¬ Ts j → ¬ Ts' j := fun j h1 h2 h => by
    rcases (ht j h).1 with h3 | h3
    · exact h2 h3
    · omega
  exact ⟨hg, H.be Ts y y' H.sd hk fun k h1 h2 => (H.fr k h1).2.1 h2, H.be, fun j h => ⟨Nat.lt_of_lt_of_le (H.fr j h).1 hz, new j (H.fr j h).1 (H.fr j h).2.1, (H.fr j h).2.2⟩, hk.row H.row fun j e h => (H.vs j e).1 h, fun j e => ⟨new j (own_lt H.row e) (H.vs j e).1, (H.vs j e).2⟩⟩
/-- Behind an append to the digests that were read. -/
theorem Ew.grown {V' : Value} {x : Hx} (H : Ew W s t kb fb Ts Tt M A N B V n g F P bx y) (hr : y'.ownsRow W.heap.size 39 32 V' (n + 1) (flat n g ++ flat 1 fun _ => x)) (hg : y.grownBy y' V.ownBlock) (hV : ∀ k, V'.ownBlock = some k → V.ownBlock = some k ∨ k = y.heap.size) : Ew W s t kb fb Ts Tt M A N B V' (n + 1) (fun k => if k < n then g k else x) F P bx y' := by
  have hk : Kept (fun k => V.ownBlock = some k) y y' := ⟨hg.os, hg.tape, hg.output, hg.size, fun k hk hn => hg.block k hk (fun e => hn e.symm)⟩
  have hz := hk.size
  refine ⟨H.gm.carry hk fun k e => ⟨owns_base H.row e, (H.vs k e).1, (H.vs k e).2.1, (H.vs k e).2.2.1, (H.vs k e).2.2.2.1, fun h => (by cases h), (H.vs k e).2.2.2.2.2⟩, H.be _ y y' H.sd hk fun k h1 h2 => (H.vs k h2).2.2.2.2.1 h1, H.be, fun j h => ⟨Nat.lt_of_lt_of_le (H.fr j h).1 hz, (H.fr j h).2⟩, ?_, fun j e => ?_⟩
  · rw [flat_append] at hr
    refine (flat_cong fun k hk => ?_) ▸ hr
    show _ = _
    split <;> rfl
  · rcases hV j e with h | h
    · exact H.vs j h
    · subst h
      have f := H.gm.fresh y.heap.size (Nat.le_refl _)
      exact ⟨f.2.1, f.2.2.1, f.2.2.2.1, f.2.2.2.2.1, fun h => by have := (H.fr _ h).1; omega, fun b hb e => by have := H.gm.lt hb; omega⟩
/-- A box written anew. -/
theorem Ew.put {b : Bx} {f : Nat → Value} (H : Ew W s t kb fb Ts Tt M A N B V n g F P (b :: bx) y) (hn : ∀ c, c ∈ bx → c.q ≠ b.q) : Ew W s t kb fb Ts Tt M A N B V n g F P (⟨b.q, b.t, b.n, f⟩ :: bx) (y.setRow b.q (tab b.n f)) := by
  have hk : Kept (fun k => k = b.q) y (y.setRow b.q (tab b.n f)) := ⟨by simp, by simp, by simp, by simp, fun k _ hk => setRow_other _ _ _ _ hk⟩
  have hz := hk.size
  have h0 : b ∈ b :: bx := List.mem_cons_self ..
  refine ⟨H.gm.put hn, H.be _ y _ H.sd hk fun k h1 h2 => (H.fr k h1).2.2 b h0 h2.symm, H.be, fun j h => ⟨Nat.lt_of_lt_of_le (H.fr j h).1 hz, (H.fr j h).2.1, fun c hc => ?_⟩, hk.row H.row fun j e h => (H.vs j e).2.2.2.2.2 b h0 h.symm, fun j e => ⟨(H.vs j e).1, (H.vs j e).2.1, (H.vs j e).2.2.1, (H.vs j e).2.2.2.1, (H.vs j e).2.2.2.2.1, fun c hc => ?_⟩⟩
  · rcases List.mem_cons.1 hc with rfl | hc
    · exact (H.fr j h).2.2 b h0
    · exact (H.fr j h).2.2 c (List.mem_cons_of_mem _ hc)
  · rcases List.mem_cons.1 hc with rfl | hc
    · exact (H.vs j e).2.2.2.2.2 b h0
    · exact (H.vs j e).2.2.2.2.2 c (List.mem_cons_of_mem _ hc)
end
/-- A store is known of its blocks, and of its kin's. -/
theorem beside_st (T : Nat → Prop) (c kb fb : Nat) (S : Sto) : Beside (Foot T kb fb) fun y => IsSt y T c kb fb S := fun U y y' h hk hn =>
  h.kept hk (fun k hT => hn k (.inl hT)) (hn kb (.inr (.inl rfl))) (hn fb (.inr (.inr rfl)))
/-- What the second loop has read, and asked for. -/
def Wants (D : Nat) (M : List (Hx × Px)) (rt : Hx) (Ix : Nat → Nat) (j : Nat) (A : List Hx) (g : Nat → Hx) : Prop :=
  (∀ r, r < j → Wt.key (g r) = Wt.key (hhw M D (Ix r) rt D)) ∧ (∀ x, x ∈ A → ∃ r l, r < j ∧ l < D ∧ x = hhw M D (Ix r) rt l) ∧ (∀ r l, r < j → l < D → ∃ x, x ∈ A ∧ Wt.key x = Wt.key (hhw M D (Ix r) rt l)) ∧ A.length ≤ 17 * j
theorem Wants.zero (D : Nat) (M : List (Hx × Px)) (rt : Hx) (Ix : Nat → Nat) (g : Nat → Hx) : Wants D M rt Ix 0 [] g :=
  ⟨fun r h => by omega, fun x h => (by cases h), fun r l h => by omega, Nat.zero_le _⟩
theorem Wants.more {D : Nat} {M : List (Hx × Px)} {rt : Hx} {Ix : Nat → Nat} {j : Nat} {A : List Hx} {g : Nat → Hx} {x : Hx} (h : Wants D M rt Ix j A g) (hD : D ≤ 16) (hx : Wt.key x = Wt.key (hhw M D (Ix j) rt D)) : Wants D M rt Ix (j + 1) (askN A (hhw M D (Ix j) rt) D) fun k => if k < j then g k else x := by
  obtain ⟨h1, h2, h3, h4⟩ := h
  refine ⟨fun r hr => ?_, fun a ha => ?_, fun r l hr hl => ?_, ?_⟩
  · by_cases e : r < j
    · show Wt.key (if r < j then g r else x) = _
      rw [if_pos e]; exact h1 r e
    · show Wt.key (if r < j then g r else x) = _
      rw [if_neg e, show r = j from by omega]; exact hx
  · rcases askN_mem D ha with h5 | ⟨l, h5, h6⟩
    · obtain ⟨r, l, k1, k2, k3⟩ := h2 a h5
      exact ⟨r, l, by omega, k2, k3⟩
    · exact ⟨j, l, by omega, h5, h6⟩
  · by_cases e : r < j
    · obtain ⟨a, k1, k2⟩ := h3 r l e hl
      exact ⟨a, askN_sub _ k1 D, k2⟩
    · rw [show r = j from by omega]
      exact askN_has A _ D l hl
  · have := askN_len A (hhw M D (Ix j) rt) D
    omega
end Wt
end Go.Proofs.YtdmffnjbholkkaaDoor
namespace Go.Proofs.YtdmffnjbholkkaaDoor
open Go.RowKit
set_option linter.unusedVariables false
set_option linter.unusedSimpArgs false
/-- A region that draws its order, with operations that are not wanted among those that come up alone. -/
inductive OS where
  | done : OS
  | take : Nat → OS → OS
  | one : Nat → OS → OS
  | skip : Nat → OS → OS
def OS.size : OS → Nat
  | .done => 0
  | .take _ r => r.size + 1
  | .one _ r => r.size + 1
  | .skip _ r => r.size + 1
section
variable {P : Program} {ops : Array Oper} {Q : Exit → Act → World → Prop} {S : World → Prop}
def wpOs (P : Program) (ops : Array Oper) (Q : Exit → Act → World → Prop) (S : World → Prop) : OS → Act → World → Prop
  | .done, a, w => Q .normal a w
  | .take k r, a, w => ∃ o v, ops[k]? = some o ∧ YieldsIf P ops S o v a ∧ wpOs P ops Q S r (a.put o.dst v) w
  | .one k r, a, w => ∃ o, ops[k]? = some o ∧ Region.wanted o (yielded ops a.tmps) = true ∧ o.wp P a w (fun a' w' => S w' ∧ wpOs P ops Q S r a' w') Q
  | .skip k r, a, w => ∃ o, ops[k]? = some o ∧ Region.wanted o (yielded ops a.tmps) = false ∧ wpOs P ops Q S r (a.put o.dst undef) w
theorem os_done {a : Act} {w : World} (h : Q .normal a w) : wpOs P ops Q S .done a w := h
theorem os_tk {k : Nat} {r : OS} {o : Oper} {a : Act} {w : World} (d : Option Tmp) (v : Value) (ho : ops[k]? = some o) (hd : o.dst = d) (hw : Region.wanted o (yielded ops a.tmps) = true)
    (hy : ∀ w, S w → (execOp a.eval o).run P w = .ok (.value v) w) (h : wpOs P ops Q S r (a.put d v) w) : wpOs P ops Q S (.take k r) a w :=
  ⟨o, v, ho, .inl ⟨hw, hy⟩, by rw [hd]; exact h⟩
theorem os_ld {k : Nat} {r : OS} {o : Oper} {a : Act} {w : World} (d : Option Tmp) (ty : TypeId) (x : Operand) (p v : Value) (ho : ops[k]? = some o) (hd : o.dst = d) (hw : Region.wanted o (yielded ops a.tmps) = true) (hop : o.op = .load ty x) (hx : a.eval x = p)
    (hl : ∀ w, S w → (Instr.loadAt ty p).run P w = .ok v w) (h : wpOs P ops Q S r (a.put d v) w) : wpOs P ops Q S (.take k r) a w :=
  os_tk d v ho hd hw (fun w hw => by unfold execOp; simp only [hop, hx]; simp [hl w hw, Result.andThen]) h
theorem os_un {k : Nat} {r : OS} {o : Oper} {a : Act} {w : World} (d : Option Tmp) (ho : ops[k]? = some o) (hd : o.dst = d) (hw : Region.wanted o (yielded ops a.tmps) = false)
    (h : wpOs P ops Q S r (a.put d undef) w) : wpOs P ops Q S (.take k r) a w :=
  ⟨o, undef, ho, .inr ⟨hw, rfl⟩, by rw [hd]; exact h⟩
theorem os_skip {k : Nat} {r : OS} {o : Oper} {a : Act} {w : World} (d : Option Tmp) (ho : ops[k]? = some o) (hd : o.dst = d) (hw : Region.wanted o (yielded ops a.tmps) = false)
    (h : wpOs P ops Q S r (a.put d undef) w) : wpOs P ops Q S (.skip k r) a w :=
  ⟨o, ho, hw, by rw [hd]; exact h⟩
theorem os_f {k : Nat} {r : OS} {o : Oper} {a : Act} {w : World} (ho : ops[k]? = some o) (hw : Region.wanted o (yielded ops a.tmps) = true)
    (h : ∀ K : Act → World → Prop, (∀ a' w', S w' → wpOs P ops Q S r a' w' → K a' w') → o.wp P a w K Q) : wpOs P ops Q S (.one k r) a w :=
  ⟨o, ho, hw, h _ fun _ _ h1 h2 => ⟨h1, h2⟩⟩
def osB (ops : Array Oper) : OS → Array Bool → Bool
  | .done, l => (Region.ready .any ops l).isEmpty
  | .take k r, l => (Region.ready .any ops l).contains k && Region.free .any ops l k && osB ops r (l.setIfInBounds k true)
  | .one k r, l => decide (Region.ready .any ops l = [k]) && osB ops r (l.setIfInBounds k true)
  | .skip k r, l => decide (Region.ready .any ops l = [k]) && osB ops r (l.setIfInBounds k true)
theorem os_any (hs : Region.noSelect ops = true) (hQ : ∀ c a d v w, Q (.panic c) (a.put d v) w → Q (.panic c) a w) : ∀ (l : OS) (listed : Array Bool) (a : Act) (w : World), S w →
    osB ops l listed = true → wpOs P ops Q S l a w → wpAnyH P .any ops Q S l.size listed a w
  | .done, _, _, _, _, hB, h => ⟨by simpa [osB] using hB, h⟩
  | .take k r, listed, a, w, hS, hB, ⟨o, v, h0, hy, h⟩ => by
    simp only [osB, Bool.and_eq_true] at hB
    exact wpAnyH_take h0 hs hB.1.2 hB.1.1 (fun c a w => hQ c a _ _ w) hy hS (os_any hs hQ r _ _ _ hS hB.2 h)
  | .one k r, listed, a, w, hS, hB, ⟨o, h0, hw, h⟩ => by
    simp only [osB, Bool.and_eq_true, decide_eq_true_eq] at hB
    refine wpAnyH_all hB.1 (by simp) fun i hi => ?_
    have hik : i = k := by simpa using hi
    subst hik
    unfold wpOp
    simp only [h0]
    rw [if_pos hw]
    exact .inl (Oper.wp_mono (fun a' w' ⟨h2, h3⟩ => ⟨h2, os_any hs hQ r _ _ _ h2 hB.2 h3⟩) h)
  | .skip k r, listed, a, w, hS, hB, ⟨o, h0, hw, h⟩ => by
    simp only [osB, Bool.and_eq_true, decide_eq_true_eq] at hB
    refine wpAnyH_all hB.1 (by simp) fun i hi => ?_
    have hik : i = k := by simpa using hi
    subst hik
    unfold wpOp
    simp only [h0]
    rw [if_neg (by rw [hw]; simp)]
    exact ⟨hS, os_any hs hQ r _ _ _ hS hB.2 h⟩
theorem wp_region_os {id : Nat} {a : Act} {w : World} {l : List Oper} (S : World → Prop) (t : OS) (hm : P.follows .mixedOrders = true) (hB : (decide (t.size = l.length) && Region.noSelect l.toArray && osB l.toArray t (Array.replicate l.length false)) = true) (hS : S w.drew)
    (h : wpOs P l.toArray (NoPanic Q) S t a w.drew) : (Code.region id l.toArray true).wp P Q a w := by
  refine wp_region_noPanic ?_
  have hQ : ∀ c a d v w, NoPanic Q (.panic c) (a.put d v) w → NoPanic Q (.panic c) a w := fun _ _ _ _ _ h => h
  simp only [Bool.and_eq_true, decide_eq_true_eq] at hB
  refine wp_region_held (S := S) hm ?_
  have h1 := os_any (P := P) (Q := NoPanic Q) (ops := l.toArray) hB.1.2 hQ t (Array.replicate l.length false) a w.drew hS hB.2 h
  rw [hB.1.1] at h1
  simpa using h1
end
theorem cell_rowN {w : World} {q b i : Nat} (cs : Array Value) (h : b ≠ q) : (w.setRow q cs).cell? ⟨b, i, none⟩ = w.cell? ⟨b, i, none⟩ := by
  simp only [World.cell?, setRow_other _ _ _ _ h]
namespace Wt
open Kc Mk
/-- A row of digests, as what is loaded from it. -/
theorem row_hq {w : World} {B0 T n : Nat} {V : Value} {f : Nat → Hx} (h : w.ownsRow B0 T 32 V n (flat n f)) : ∃ a c, V = .slice a n c ∧ ∀ j, j < n → ∃ g, a = some ⟨g, 0, none⟩ ∧ ∀ y, Below w.heap.size w y → (Instr.loadAt 39 (.pointer (some ⟨g, 32 * j, none⟩))).run Tryd.prog y = .ok (.agg (tab 32 fun i => bv (f j i))) y := by
  rcases h.2 with ⟨rfl, e⟩ | ⟨g, cap, cur, rfl, hg, hc, hnc, hm, hs, ht⟩
  · have hn : n = 0 := by have := flat_len n f; rw [e] at this; simp at this; omega
    subst hn
    exact ⟨none, 0, rfl, fun j hj => by omega⟩
  · refine ⟨some ⟨g, 0, none⟩, cap, rfl, fun j hj => ⟨g, rfl, fun y hy => ?_⟩⟩
    have h5 : At5 w g 0 n f := fun k x hk hx => by
      have e1 : (cur.toList.take (n * 32))[32 * k + x]? = (flat n f)[32 * k + x]? := by rw [ht]
      rw [List.getElem?_take, if_pos (by omega), flat_at hk hx] at e1
      rw [Nat.zero_add, cell_of_row w g (32 * k + x) _ _ _ hc]
      simpa using e1
    exact loadH (h5.below hy) hj (by omega)
/-- Another store, of its own kin, in the old one's place. -/
theorem Gm.swap {W y0 y : World} {s t kb fb : Nat} {Ts Tt : Nat → Prop} {M N : List (Hx × Px)} {A B : List Hx} {met : Bool} {bx : List Bx} (H : Gm W s t kb fb Ts Tt M A N B met (.slice none 0 0) [] bx y0) (hb : Below y0.heap.size y0 y) {s3 k3 f3 : Nat} {T3 : Nat → Prop} {M3 : List (Hx × Px)} {A3 : List Hx} (h : IsSt y T3 s3 k3 f3 ⟨M3, A3⟩) (h1 : ∀ j, Foot T3 k3 f3 j → y0.heap.size ≤ j) (h2 : ∀ j, T3 j → j < y.heap.size) :
    Gm W s3 t k3 f3 T3 Tt M3 A3 N B met (.slice none 0 0) [] bx y := by
  have hW := H.below.size
  have hk := h.kin.lt
  have a1 := h1 k3 (.inr (.inl rfl))
  have a2 := h1 f3 (.inr (.inr rfl))
  refine ⟨h, H.ro.below hb, World.ownsRow_nil _ _ _ _, fun j hj => ⟨by have := h1 j (.inl hj); omega, h2 j hj⟩, fun j hj => ⟨(H.tt j hj).1, Nat.lt_of_lt_of_le (H.tt j hj).2 hb.size⟩, fun j hj hj2 => by have := h1 j (.inl hj); have := H.ttl j hj2; omega, ⟨by omega, hk.1, fun hj => by have := H.ttl _ hj; omega⟩, ⟨by omega, hk.2, fun hj => by have := H.ttl _ hj; omega⟩, fun j e => (by cases e), fun b hm => ?_, bl H.below hb, H.kt, H.et, H.lo⟩
  have hx := H.bx b hm
  have hl := hx.1.lt
  exact ⟨hx.1.below hb, hx.2.1, fun hj => by have := h1 _ (.inl hj); omega, hx.2.2.2.1, by omega, by omega, fun e => by cases e⟩
/-- A store that is filled out of another one, which is asked; the digests that were read, and those that were asked for. -/
structure Ex (W : World) (s t kb fb : Nat) (Ts Tt : Nat → Prop) (M : List (Hx × Px)) (A : List Hx) (N : List (Hx × Px)) (B : List Hx) (c kc fc : Nat) (Tc : Nat → Prop) (S : Sto) (V : Value) (m : Nat) (g : Nat → Hx) (U : Value) (nA : Nat) (L : Nat → Hx) (bx : List Bx) (y : World) : Prop where
  gm : Gm W s t kb fb Ts Tt M A N B false (.slice none 0 0) [] bx y
  st : IsSt y Tc c kc fc S
  tc : ∀ j, Tc j → j < y.heap.size
  fr : ∀ j, Foot Tc kc fc j → ¬ Ts j ∧ ¬ Tt j ∧ j ≠ kb ∧ j ≠ fb ∧ W.heap.size ≤ j ∧ ∀ b, b ∈ bx → b.q ≠ j
  row : y.ownsRow W.heap.size 39 32 V m (flat m g)
  vs : ∀ j, V.ownBlock = some j → ¬ Ts j ∧ ¬ Tt j ∧ j ≠ kb ∧ j ≠ fb ∧ ¬ Foot Tc kc fc j ∧ ∀ b, b ∈ bx → b.q ≠ j
  asr : y.ownsRow 0 39 32 U nA (flat nA L)
  us : ∀ j, U.ownBlock = some j → ¬ Ts j ∧ j ≠ kb ∧ j ≠ fb ∧ ¬ Foot Tc kc fc j ∧ ∀ b, b ∈ bx → b.q ≠ j
section
variable {W y y' : World} {s t kb fb c kc fc m nA : Nat} {Ts Tt Tc : Nat → Prop} {M N : List (Hx × Px)} {A B : List Hx} {S : Sto} {V U : Value} {g L : Nat → Hx} {bx : List Bx}
theorem Ex.next (H : Ex W s t kb fb Ts Tt M A N B c kc fc Tc S V m g U nA L bx y) (hb : Below y.heap.size y y') : Ex W s t kb fb Ts Tt M A N B c kc fc Tc S V m g U nA L bx y' :=
  ⟨H.gm.next hb, H.st.below hb, fun j h => Nat.lt_of_lt_of_le (H.tc j h) hb.size, H.fr, (Kept.ofBelow (S := fun _ => False) hb).row H.row (fun _ _ h => h), H.vs, (Kept.ofBelow (S := fun _ => False) hb).row H.asr (fun _ _ h => h), H.us⟩
theorem Ex.foot (H : Ex W s t kb fb Ts Tt M A N B c kc fc Tc S V m g U nA L bx y) (j : Nat) (h : Foot Tc kc fc j) : j < y.heap.size := by
  have hk := H.st.kin.lt
  rcases h with h | h | h
  · exact H.tc j h
  · omega
  · omega
theorem Ex.alloc (H : Ex W s t kb fb Ts Tt M A N B c kc fc Tc S V m g U nA L bx y) (T n : Nat) (f : Nat → Value) : Ex W s t kb fb Ts Tt M A N B c kc fc Tc S V m g U nA L (⟨y.heap.size, T, n, f⟩ :: bx) (y.alloc (.cells (tab n f) T)) := by
  have h := H.next (ba y (.cells (tab n f) T))
  refine ⟨H.gm.alloc T n f, h.st, h.tc, fun j hj => ⟨(H.fr j hj).1, (H.fr j hj).2.1, (H.fr j hj).2.2.1, (H.fr j hj).2.2.2.1, (H.fr j hj).2.2.2.2.1, fun b hb => ?_⟩, h.row, fun j e => ⟨(H.vs j e).1, (H.vs j e).2.1, (H.vs j e).2.2.1, (H.vs j e).2.2.2.1, (H.vs j e).2.2.2.2.1, fun b hb => ?_⟩, h.asr, fun j e => ⟨(H.us j e).1, (H.us j e).2.1, (H.us j e).2.2.1, (H.us j e).2.2.2.1, fun b hb => ?_⟩⟩
  · rcases List.mem_cons.1 hb with rfl | hb
    · have := H.foot j hj
      show y.heap.size ≠ j
      omega
    · exact (H.fr j hj).2.2.2.2.2 b hb
  · rcases List.mem_cons.1 hb with rfl | hb
    · have := own_lt H.row e
      show y.heap.size ≠ j
      omega
    · exact (H.vs j e).2.2.2.2.2 b hb
  · rcases List.mem_cons.1 hb with rfl | hb
    · have := own_lt H.asr e
      show y.heap.size ≠ j
      omega
    · exact (H.us j e).2.2.2.2 b hb
theorem Ex.sub {bx' : List Bx} (H : Ex W s t kb fb Ts Tt M A N B c kc fc Tc S V m g U nA L bx y) (h : ∀ b, b ∈ bx' → b ∈ bx) : Ex W s t kb fb Ts Tt M A N B c kc fc Tc S V m g U nA L bx' y :=
  ⟨H.gm.sub h, H.st, H.tc, fun j hj => ⟨(H.fr j hj).1, (H.fr j hj).2.1, (H.fr j hj).2.2.1, (H.fr j hj).2.2.2.1, (H.fr j hj).2.2.2.2.1, fun b hb => (H.fr j hj).2.2.2.2.2 b (h b hb)⟩, H.row, fun j e => ⟨(H.vs j e).1, (H.vs j e).2.1, (H.vs j e).2.2.1, (H.vs j e).2.2.2.1, (H.vs j e).2.2.2.2.1, fun b hb => (H.vs j e).2.2.2.2.2 b (h b hb)⟩, H.asr, fun j e => ⟨(H.us j e).1, (H.us j e).2.1, (H.us j e).2.2.1, (H.us j e).2.2.2.1, fun b hb => (H.us j e).2.2.2.2 b (h b hb)⟩⟩
/-- The full store is asked. -/
theorem Ex.get (H : Ex W s t kb fb Ts Tt M A N B c kc fc Tc S V m g U nA L bx y) (h : Hx) (hn : S.asked.length < 1073741824) :
    Calls Tryd.prog 19 #[.pointer (some ⟨c, 0, none⟩), dv h] y fun e w' => e = .returned (.tuple #[pv ((look S.pres h).getD zp), missV (has S.pres h)]) ∧ ∃ Tc', Ex W s t kb fb Ts Tt M A N B c kc fc Tc' ⟨S.pres, askL S.asked h⟩ V m g U nA L bx w' := by
  refine (get_walk Tc c kc fc S h y H.st H.tc hn).mono ?_
  rintro e w' ⟨he, h1, h2⟩
  have hz := h2.size
  have hkc := H.st.kin.lt
  have nw : ∀ j, Foot (Grow Tc y w') kc fc j → Foot Tc kc fc j ∨ y.heap.size ≤ j := fun j hj => by
    rcases hj with (hj | hj) | hj | hj
    · exact .inl (.inl hj)
    · exact .inr hj.1
    · exact .inl (.inr (.inl hj))
    · exact .inl (.inr (.inr hj))
  refine ⟨he, _, H.gm.carry h2 fun k hk => ?_, h1, fun j hj => ?_, fun j hj => ?_, h2.row H.row fun j e hj => (H.vs j e).2.2.2.2.1 (.inl hj), fun j e => ?_, h2.row H.asr fun j e hj => (H.us j e).2.2.2.1 (.inl hj), fun j e => ?_⟩
  · have f := H.fr k (.inl hk)
    exact ⟨f.2.2.2.2.1, f.1, f.2.1, f.2.2.1, f.2.2.2.1, fun e => (by cases e), f.2.2.2.2.2⟩
  · rcases hj with hj | hj
    · have := H.tc j hj; omega
    · exact hj.2
  · rcases nw j hj with hj | hj
    · exact H.fr j hj
    · have f := H.gm.fresh j hj
      exact ⟨f.2.1, f.2.2.1, f.2.2.2.1, f.2.2.2.2.1, f.1, fun b hb e => by have := H.gm.lt hb; omega⟩
  · have f := H.vs j e
    refine ⟨f.1, f.2.1, f.2.2.1, f.2.2.2.1, fun hj => ?_, f.2.2.2.2.2⟩
    rcases nw j hj with hj | hj
    · exact f.2.2.2.2.1 hj
    · have := own_lt H.row e; omega
  · have f := H.us j e
    refine ⟨f.1, f.2.1, f.2.2.1, fun hj => ?_, f.2.2.2.2⟩
    rcases nw j hj with hj | hj
    · exact f.2.2.2.1 hj
    · have := own_lt H.asr e; omega
/-- The other one is given a preimage. -/
theorem Ex.add (H : Ex W s t kb fb Ts Tt M A N B c kc fc Tc S V m g U nA L bx y) (p : Px) : Calls Tryd.prog 17 #[.pointer (some ⟨s, 0, none⟩), pv p] y fun e w' => e = .returned (.tuple #[dv (hs p), .nilIface]) ∧ Ex W s t kb fb Ts Tt (putM M (hs p) p) A N B c kc fc Tc S V m g U nA L bx w' := by
  refine (H.gm.add p).mono ?_
  rintro e w' ⟨he, h1, h2⟩
  have hz := h2.size
  have ap : ∀ j, Foot Tc kc fc j → ¬ Foot Ts kb fb j := fun j hj hj2 => by
    have f := H.fr j hj
    rcases hj2 with h | h | h
    · exact f.1 h
    · exact f.2.2.1 h
    · exact f.2.2.2.1 h
  refine ⟨he, h1, H.st.kept h2 (fun k hk => ap k (.inl hk)) (ap kc (.inr (.inl rfl))) (ap fc (.inr (.inr rfl))), fun j hj => Nat.lt_of_lt_of_le (H.tc j hj) hz, H.fr, h2.row H.row fun j e hj => ?_, H.vs, h2.row H.asr fun j e hj => ?_, H.us⟩
  · have f := H.vs j e
    rcases hj with h | h | h
    · exact f.1 h
    · exact f.2.2.1 h
    · exact f.2.2.2.1 h
  · have f := H.us j e
    rcases hj with h | h | h
    · exact f.1 h
    · exact f.2.1 h
    · exact f.2.2.1 h
end
/-- Two rows of digests, and where they lie. -/
def TwoR (T : Nat) (V : Value) (m : Nat) (g : Nat → Hx) (U : Value) (n : Nat) (L : Nat → Hx) (y : World) : Prop := y.ownsRow T 39 32 V m (flat m g) ∧ y.ownsRow 0 39 32 U n (flat n L)
def TwoB (V U : Value) (k : Nat) : Prop := V.ownBlock = some k ∨ U.ownBlock = some k
theorem two_beside (T : Nat) (V : Value) (m : Nat) (g : Nat → Hx) (U : Value) (n : Nat) (L : Nat → Hx) : Beside (TwoB V U) (TwoR T V m g U n L) := fun S y y' h hk hn =>
  ⟨hk.row h.1 fun j e hj => hn j (.inl e) hj, hk.row h.2 fun j e hj => hn j (.inr e) hj⟩
section
variable {W y : World} {s t kb fb c kc fc m nA : Nat} {Ts Tt Tc : Nat → Prop} {M N : List (Hx × Px)} {A B : List Hx} {S : Sto} {V U : Value} {g L : Nat → Hx} {bx : List Bx}
/-- What the filled store's reads keep. -/
theorem Ex.two (H : Ex W s t kb fb Ts Tt M A N B c kc fc Tc S V m g U nA L bx y) : Ew W s t kb fb Ts Tt M A N B (.slice none 0 0) 0 (fun _ _ => 0#8) (TwoB V U) (TwoR W.heap.size V m g U nA L) bx y :=
  ⟨H.gm, ⟨H.row, H.asr⟩, two_beside _ _ _ _ _ _ _, fun j hj => by
    rcases hj with e | e
    · exact ⟨own_lt H.row e, (H.vs j e).1, (H.vs j e).2.2.2.2.2⟩
    · exact ⟨own_lt H.asr e, (H.us j e).1, (H.us j e).2.2.2.2⟩, World.ownsRow_nil _ _ _ _, fun j e => (by cases e)⟩
theorem Ex.twoK (H : Ex W s t kb fb Ts Tt M A N B c kc fc Tc S V m g U nA L bx y) (j : Nat) (hj : TwoB V U j) : j ≠ kb ∧ j ≠ fb := by
  rcases hj with e | e
  · exact ⟨(H.vs j e).2.2.1, (H.vs j e).2.2.2.1⟩
  · exact ⟨(H.us j e).2.1, (H.us j e).2.2.1⟩
end
/-- A preimage is dropped. -/
theorem Ew.drop {W y : World} {s t kb fb n : Nat} {Ts Tt F : Nat → Prop} {P : World → Prop} {M N : List (Hx × Px)} {A B : List Hx} {V : Value} {g : Nat → Hx} {bx : List Bx} (H : Ew W s t kb fb Ts Tt M A N B V n g F P bx y) (hF : ∀ k, F k → k ≠ kb ∧ k ≠ fb) (h : Hx) :
    Calls Tryd.prog 22 #[.pointer (some ⟨s, 0, none⟩), dv h] y fun e w' => e = .returned (missV (has M h)) ∧ Ew W s t kb fb Ts Tt (dropM M h) A N B V n g F P bx w' :=
  (H.gm.drop h).mono fun e w' ⟨he, h1, h2⟩ => ⟨he, h1, H.be _ y w' H.sd h2 fun k hk hf => by
    rcases hf with h | h | h
    · exact (H.fr k hk).2.1 h
    · exact (hF k hk).1 h
    · exact (hF k hk).2 h, H.be, fun j hj => ⟨Nat.lt_of_lt_of_le (H.fr j hj).1 h2.size, (H.fr j hj).2⟩, h2.row H.row fun j e hf => by
    rcases hf with h | h | h
    · exact (H.vs j e).1 h
    · exact (H.vs j e).2.2.1 h
    · exact (H.vs j e).2.2.2.1 h, H.vs⟩
theorem u64_mod7 (d : Int) : ∃ k : Nat, (IntKind.u64.wrap d).tmod 7 = (k : Int) ∧ k ≤ 6 := by
  have e : IntKind.u64.wrap d = d % 18446744073709551616 := IntKind.wrap_u64 d
  have h0 : 0 ≤ d % 18446744073709551616 := Int.emod_nonneg _ (by decide)
  refine ⟨((IntKind.u64.wrap d).tmod 7).toNat, ?_, ?_⟩
  · rw [e, Int.tmod_eq_emod_of_nonneg h0]; omega
  · rw [e, Int.tmod_eq_emod_of_nonneg h0]; omega
theorem Tr.alike {M N : List (Hx × Px)} (h : Alike M N) {d : Nat} {r : Hx} {L : Nat → Hx} (t : Tr N d r L) : Tr M d r L := Tr.ext (Ext.alike h.symm) d t
theorem Gm.writeHitN {W y : World} {s t kb fb : Nat} {Ts Tt : Nat → Prop} {M N : List (Hx × Px)} {A B : List Hx} {met : Bool} {V : Value} {K : List Hx} {bx : List Bx} {N0 : List (Hx × Px)} (H : Gm W s t kb fb Ts Tt M A N B met V K bx y) {D I : Nat} {rt : Hx} (lf : Hx) (hMN : Alike M N0) (hn : A.length + 17 < 1073741824) (hD : D ≤ 16) (hI : I < 2 ^ D) (hhas : ∀ j, j < D → has N0 (hhw N0 D I rt j) = true) :
    Calls Tryd.prog 26 #[.pointer (some ⟨s, 0, none⟩), .int .i64 D, dv rt, .int .i64 I, dv lf] y fun e w' => e = .returned (.tuple #[dv (wlf (sdv N0 (hhw N0 D I rt) D I) D I lf D), .nilIface]) ∧ ∃ Ts' M' A', Gm W s t kb fb Ts' Tt M' A' N B met V K bx w' ∧ Alike M' (wpr N0 (sdv N0 (hhw N0 D I rt) D I) D I lf D) ∧ A'.length ≤ A.length + 17 := by
  have h := write_walk Ts s kb fb M A D I (hhw N0 D I rt) lf y H.ktab H.st H.tsl hn hD hI (fun j _ y hy => hhw_step hMN D I rt j y hy) (fun j hj => (hMN.has _).trans (hhas j hj))
  have hf : ∀ l, l < D → pre (px M (hhw N0 D I rt) l) = pre (px N0 (hhw N0 D I rt) l) := fun l _ => px_alike hMN _ l
  rw [hhw_zero, wleaf_wlf _ N0 (hhw N0 D I rt) D I lf hf D (Nat.le_refl _)] at h
  refine h.mono ?_
  rintro e w' ⟨he, T', hR⟩
  refine ⟨he, T', _, _, H.prog hR.st hR.tt hR.kp, wpres_wpr _ M N0 (hhw N0 D I rt) D I lf hMN hf D (Nat.le_refl _), ?_⟩
  have := askN_len A (hhw N0 D I rt) D
  omega
/-- What the first loop keeps. -/
def L1 (W : World) (s t kb fb D q8 n : Nat) (y : World) : Prop := ∃ Ts Tt M A N B, ∃ (rt : Hx) (f : Nat → Hx), Gm W s t kb fb Ts Tt M A N B false (.slice none 0 0) [] [⟨q8, 39, 32, fun i => bv (rt i)⟩] y ∧ Alike M N ∧ Tr N D rt f ∧ Ext (zs 16) N ∧ N.length ≤ 16 + 17 * n ∧ A.length ≤ 17 * n ∧ B.length ≤ 17 * n

set_option maxHeartbeats 16000000 in
set_option maxRecDepth 100000 in
theorem enough_in (AP : Option Addr) (len cap : Nat) (dI drop : Int) (w : World) (hlm : (len : Int) ≤ 9223372036854775807)
    (cells : ∀ i, i < len → ∃ c off, ∃ (a : Int) (lf : Hx), AP = some ⟨c, off, none⟩ ∧ w.cell? ⟨c, off + i * 33, none⟩ = some (.int .i64 a) ∧ ∀ j, j < 32 → w.cell? ⟨c, off + i * 33 + 1 + j, none⟩ = some (bv (lf j)))
    (hg : Et w) (ht : Laid.KTab w) :
    Calls Tryd.prog 6 #[.int .i64 dI, .slice AP len cap, .int .i64 drop] w fun e w' => e = .returned (.bool true) ∧ Below w.heap.size w w' := by
  have HC := Lib.hid cells
  have HG := Lib.hid (And.intro hg ht)
  clear cells hg ht
  obtain ⟨d0, hD, hDb⟩ := u64_mod7 dI
  obtain ⟨D, hDD⟩ : ∃ D, d0 + 1 = D := ⟨_, rfl⟩
  have HD : Hid (D ≤ 7 ∧ 1 ≤ D) := Lib.hid (by omega)
  have hwD : IntKind.i64.wrap (d0 : Int) = (d0 : Int) := IntWalk.i64_in _ (by omega)
  have hadd : wrap64 (1 + (d0 : Int)) = (D : Int) := by unfold wrap64; omega
  have HW0 := Lib.hid (New_walk w HG.out.2 (lowB_le HG.out.2))
  go_enter Tryd.func6, Tryd.ntmps6
  go_upto_region 2 with (first
    | (go_at_call 13; (with_reducible refine HW0.out.mono ?_); rintro e y1 ⟨s, Ts, kb, fb, he, h1, h2, h3, h4, h5⟩; obtain rfl : e = _ := he; have HS := Lib.hid (And.intro h1 (And.intro h2 (And.intro h3 (And.intro h4 h5)))); clear h1 h2 h3 h4 h5 HW0))
  have HF := Lib.hid (fixed06_walk y1 (HG.out.1.next HS.out.2.1) HS.out.2.2.2.2)
  go_upto_region 5 with (first
    | (go_at_call 15; (with_reducible refine HF.out.mono ?_); rintro e y2 ⟨he, hb⟩; obtain rfl : e = _ := he; have HB2 := Lib.hid hb; clear hb HF))
  rw [show (1 : Int) + (d0 : Int) = (D : Int) from by omega]
  clear hD hDb hDD hwD hadd
  obtain ⟨n2, hn2⟩ : ∃ n, 2 ^ D = n := ⟨_, rfl⟩
  have hn2b : 0 < n2 ∧ n2 ≤ 128 := by
    have := Nat.pow_le_pow_right (n := 2) (by decide) HD.out.1
    have h0 : 0 < 2 ^ D := Nat.pow_pos (by decide)
    omega
  have HN2 : Hid (2 ^ D = n2 ∧ 0 < n2 ∧ n2 ≤ 128) := Lib.hid ⟨hn2, hn2b⟩
  have HSH : Hid (IntKind.u64.wrap ((2 : Int) ^ min (IntKind.u64.wrap (D : Int)).toNat 64) = (n2 : Int)) := Lib.hid (by
    have h7 := HD.out.1
    rw [IntWalk.u64_in (D : Int) (by omega), Int.toNat_natCast, Nat.min_eq_left (by omega), show ((2 : Int) ^ D) = ((2 ^ D : Nat) : Int) from (Int.natCast_pow 2 D).symm, hn2]
    exact IntWalk.u64_in _ (by omega))
  clear hn2 hn2b
  have z3 := zeroHash
  generalize hz : (tab 32 fun _ => bv 0#8) = zh at *
  have HZH := Lib.hid hz
  clear hz
  have hz0 := zero_ok D (Nat.le_trans HD.out.1 (by decide)) y2 (ktab_below HS.out.2.2.2.2 HB2.out)
  have HTZ := Lib.hid (Tr.zero D (Nat.le_trans HD.out.1 (by decide)))
  generalize Mk.zero D = zD at *
  unfold dv at hz0
  have HZR := Lib.hid hz0
  clear hz0
  go_upto_region 8 with (first
    | (go_at_call 31; (with_reducible refine HZR.out.mono ?_); rintro e y3 ⟨he, hb⟩; obtain rfl : e = _ := he; have HB3 := Lib.hid hb; clear HZR hb)
    | ((with_reducible refine wpList_store_row (P := Tryd.prog) (w := y3.alloc (.cells zh 39)) ?_ 39 (.tmp 8) (.tmp 49) ?_ y3.heap.size (tab 32 fun i => bv (zD i)) ?_ ?_ 39 zh (heap_alloc_last y3 _) (infH _) ?_ (one_bv _ _) ?_); (· exact rfl); (· exact rfl); (· exact rfl); (· exact rfl); (· rw [← HZH.out, tab_size, tab_size]); rw [World.setRow_alloc_new]; simp only [Act.put]))
  have HQ8 : Hid (IsTab (y3.alloc (.cells (tab 32 fun i => bv (zD i)) 39)) y3.heap.size 39 32 (fun i => bv (zD i)) ∧ Below y1.heap.size y1 (y3.alloc (.cells (tab 32 fun i => bv (zD i)) 39)) ∧ y1.heap.size ≤ y3.heap.size ∧ y3.heap.size < (y3.alloc (.cells (tab 32 fun i => bv (zD i)) 39)).heap.size) := Lib.hid ⟨IsTab.new _ _ _ _, bl (bl HB2.out HB3.out) (ba _ _), (bl HB2.out HB3.out).size, by simp⟩
  clear HB2 HB3
  generalize y3.alloc (.cells (tab 32 fun i => bv (zD i)) 39) = y5 at *
  generalize y3.heap.size = q8 at *
  have HR := Lib.hid (rnew_walk y5)
  go_upto_region 9 with (first
    | (go_at_call 14; (with_reducible refine HR.out.mono ?_); rintro e y6 ⟨t, he, Tt, h1, h2, h3⟩; obtain rfl : e = _ := he; have H0 := Lib.hid (Gm.start2 (bx := [⟨q8, 39, 32, fun i => bv (zD i)⟩]) HG.out.2 HG.out.1 HS.out.1 HS.out.2.1 HS.out.2.2.1 HS.out.2.2.2.1 HQ8.out.2.1 h1 h2 h3 (fun b hb => by
        rcases List.mem_cons.1 hb with rfl | hb
        · exact ⟨HQ8.out.1.below h3, HQ8.out.2.2.1, HQ8.out.2.2.2⟩
        · cases hb)); clear HR h1 h2 h3))
  have HL0 : Hid (L1 w s t kb fb D q8 0 y6) := Lib.hid ⟨Ts, Tt, zs 16, [], zs 16, [], zD, _, H0.out, Alike.refl _, HTZ.out, Ext.refl _, by rw [zs_len]; omega, Nat.zero_le _, Nat.zero_le _⟩
  clear HS HQ8 H0 HTZ
  go_upto_block 0 with (fail)
  go_cut [8] (fun v z => v = .pointer (some ⟨q8, 0, none⟩) ∧ ∃ n, n ≤ 20 ∧ L1 w s t kb fb D q8 n z)
  case first =>
    go_wp2_with (fail)
    go_loopw [56] (fun i z => ∃ n : Nat, n ≤ len ∧ n ≤ 20 ∧ i = .int .i64 n ∧ Hid (L1 w s t kb fb D q8 n z)) (fun i _ => len - (intOf i).toNat)
    case atStart => exact ⟨0, Nat.zero_le _, Nat.zero_le _, rfl, HL0⟩
    case round =>
      obtain ⟨n, hn, h20, rfl, hp⟩ := hrel
      obtain ⟨Ts, Tt, M, A, N, B, rt, f, hG, hMN, hT1, hT2, hNl, hAl, hBl⟩ := hp.out
      have HGm := Lib.hid hG
      have HMN := Lib.hid hMN
      have HT := Lib.hid (And.intro hT1 hT2)
      have HLL : Hid (N.length ≤ 16 + 17 * n ∧ A.length ≤ 17 * n ∧ B.length ≤ 17 * n ∧ n ≤ 20) := Lib.hid ⟨hNl, hAl, hBl, h20⟩
      clear hG hMN hT1 hT2 hNl hAl hBl hp HL0
      by_cases hlt : (n : Int) < (len : Int)
      · have HLT : Hid (n < len) := Lib.hid (by omega)
        have z5 := zeroPut
        generalize hz : (tab 33 (pt 0 fun _ => 0#8)) = zp at *
        have HZP := Lib.hid hz
        clear hz
        obtain ⟨c, off, a, lf, rfl, d0, d1⟩ := HC.out n (by omega)
        have HLP := Lib.hid (loadPut (w := wr) (b := c) (o := off + n * 33) (a := a) (lf := lf) ((HGm.out.below.cell (p := ⟨c, off + n * 33, none⟩) (inHeap d0)).trans d0) fun j hj => (HGm.out.below.cell (p := ⟨c, off + n * 33 + 1 + j, none⟩) (inHeap (d1 j hj))).trans (d1 j hj))
        clear d0 d1
        go_upto_region 12 with (first
          | ((with_reducible refine wpList_loadE (P := Tryd.prog) (w := wr) (ty := 67) (x := .tmp 59) (p := .pointer (some ⟨c, off + n * 33, none⟩)) (v := .agg (tab 33 (pt a lf))) ?_ ?_ ?_ HLP.out ?_); (· exact rfl); (· exact rfl); (· exact rfl))
          | ((with_reducible refine wpList_store_row (P := Tryd.prog) (w := wr.alloc (.cells zp 67)) ?_ 67 (.tmp 12) (.tmp 60) ?_ wr.heap.size (tab 33 (pt a lf)) ?_ ?_ 67 zp (heap_alloc_last wr _) (infPut _) ?_ (pt_one _ _) ?_); (· exact rfl); (· exact rfl); (· exact rfl); (· exact rfl); (· rw [← HZP.out, tab_size, tab_size]); rw [World.setRow_alloc_new]; simp only [Act.put]))
        have HB0 := Lib.hid (HGm.out.alloc 67 33 (pt a lf))
        have HQ12 : Hid (q8 < wr.heap.size) := Lib.hid (HGm.out.lt (List.mem_cons_self ..))
        clear HGm HLP
        generalize wr.alloc (.cells (tab 33 (pt a lf)) 67) = y0 at *
        generalize wr.heap.size = q12 at *
        by_cases h9 : (20 : Int) ≤ (n : Int)
        · go_wp2_with (fail)
          go_meet
          case rel => exact ⟨rfl, n, by have := HLL.out; omega, Ts, Tt, M, A, N, B, rt, f, HB0.out.sub (fun b hb => List.mem_cons_of_mem _ hb), HMN.out, HT.out.1, HT.out.2, HLL.out.1, HLL.out.2.1, HLL.out.2.2.1⟩
        · have HN9 : Hid (n < 20) := Lib.hid (by omega)
          have e0 : y0.cell? ⟨q12, 0, none⟩ = some (.int .i64 a) := ((HB0.out.bx _ (List.mem_cons_self ..)).1).cell 0 (by decide : (0 : Nat) < 33)
          obtain ⟨I, hat, hIb⟩ := u64_modn a n2 HN2.out.2.1
          have HI : Hid (I < n2 ∧ I < 2 ^ D) := Lib.hid ⟨hIb, by rw [HN2.out.1]; exact hIb⟩
          have hsh := HSH.out
          have hn0 : ¬ n2 = 0 := by have := HN2.out; omega
          have hwJ : IntKind.i64.wrap (I : Int) = (I : Int) := IntWalk.i64_in _ (by have := HN2.out; have := HI.out; omega)
          clear hIb
          go_upto_region 14 with (fail)
          clear hat hsh hn0 hwJ e0 h9
          have hr := Tr.read D I HT.out.1 HI.out.2
          have HHAS := Lib.hid hr.1
          have hQ := HB0.out.rwriteHit lf (by have := HLL.out; omega) (by have := HLL.out; omega) (Nat.le_trans HD.out.1 (by decide)) HI.out.2 hr.1
          have hA := fun (y : World) (Tt1 : Nat → Prop) (N1 : List (Hx × Px)) (B1 : List Hx) (bs : List Bx) (h : Gm w s t kb fb Ts Tt1 M A N1 B1 false (.slice none 0 0) [] bs y) => h.writeHitN lf HMN.out (by have := HLL.out; omega) (Nat.le_trans HD.out.1 (by decide)) HI.out.2 HHAS.out
          obtain ⟨X, hX⟩ : ∃ x, wlf (sdv N (hhw N D I rt) D I) D I lf D = x := ⟨_, rfl⟩
          obtain ⟨N1, hN1⟩ : ∃ x, wpr N (sdv N (hhw N D I rt) D I) D I lf D = x := ⟨_, rfl⟩
          obtain ⟨mt, hmt⟩ : ∃ x, wmt false N (sdv N (hhw N D I rt) D I) D I lf D = x := ⟨_, rfl⟩
          have HTW : Hid (mt = false → Tr N1 D X (put f I lf) ∧ Ext N N1) := Lib.hid (fun e => by
            have k := Tr.write lf D I HT.out.1 HI.out.2 (wmt_no D (hmt.trans e)).2
            rw [hX, hN1] at k
            exact k)
          have HN1L : Hid (N1.length ≤ N.length + 17) := Lib.hid (by
            have h1 := wpr_len N (sdv N (hhw N D I rt) D I) D I lf D
            have h2 := HD.out.1
            rw [hN1] at h1
            omega)
          rw [hX, hN1] at hA
          rw [hN1, hmt] at hQ
          unfold dv at hA hQ
          have HA := Lib.hid hA
          have HQ := Lib.hid hQ
          have HLf := Lib.hid (loadLf ((HB0.out.bx _ (List.mem_cons_self ..)).1))
          have HL8 := Lib.hid (loadHb ((HB0.out.bx _ (List.mem_cons_of_mem _ (List.mem_cons_self ..))).1))
          clear hA hQ hr hX hN1 hmt
          go_upto_region 15 with (first
            | ((with_reducible refine wpList_loadE (P := Tryd.prog) (w := y0) (ty := 39) (x := .tmp 8) (p := .pointer (some ⟨q8, 0, none⟩)) (v := .agg (tab 32 fun i => bv (rt i))) ?_ ?_ ?_ HL8.out ?_); (· exact rfl); (· exact rfl); (· exact rfl))
            | ((with_reducible refine wpList_loadE (P := Tryd.prog) (w := y0) (ty := 28) (x := .tmp 75) (p := .pointer (some ⟨q12, 1, none⟩)) (v := .agg (tab 32 fun i => bv (lf i))) ?_ ?_ ?_ HLf.out ?_); (· exact rfl); (· exact rfl); (· exact rfl))
            | (go_at_call 25; (with_reducible refine HQ.out.mono ?_); rintro e y1 ⟨⟨v, he⟩, Tt1, B1, h1, h2⟩; obtain rfl : e = _ := he; have HB1 := Lib.hid h1; have HB1L := Lib.hid h2; clear HQ h1 h2))
          clear HB0 HLf HL8
          have k3 := isr_met HB1.out.ro
          by_cases hm : mt = true
          · as_aux_lemma =>
              subst hm
              go_wp2_with (fail)
              go_ret
              exact ⟨rfl, HB1.out.below⟩
          · as_aux_lemma =>
              have hm2 : mt = false := by simpa using hm
              subst hm2
              have HTR := Lib.hid (HTW.out rfl)
              clear HTW hm
              go_upto_region 17 with (fail)
              clear k3
              have HA2 := Lib.hid (HA.out _ _ _ _ _ HB1.out)
              have HLf := Lib.hid (loadLf ((HB1.out.bx _ (List.mem_cons_self ..)).1))
              have HL8 := Lib.hid (loadHb ((HB1.out.bx _ (List.mem_cons_of_mem _ (List.mem_cons_self ..))).1))
              clear HA
              go_upto_region 18 with (first
                | ((with_reducible refine wpList_loadE (P := Tryd.prog) (w := y1) (ty := 39) (x := .tmp 8) (p := .pointer (some ⟨q8, 0, none⟩)) (v := .agg (tab 32 fun i => bv (rt i))) ?_ ?_ ?_ HL8.out ?_); (· exact rfl); (· exact rfl); (· exact rfl))
                | ((with_reducible refine wpList_loadE (P := Tryd.prog) (w := y1) (ty := 28) (x := .tmp 87) (p := .pointer (some ⟨q12, 1, none⟩)) (v := .agg (tab 32 fun i => bv (lf i))) ?_ ?_ ?_ HLf.out ?_); (· exact rfl); (· exact rfl); (· exact rfl))
                | (go_at_call 26; (with_reducible refine HA2.out.mono ?_); rintro e y2 ⟨he, Ts1, M1, A1, h1, h2, h3⟩; obtain rfl : e = _ := he; have HB2 := Lib.hid h1; have HMN1 := Lib.hid h2; have HA1 := Lib.hid h3; have HK8 : Hid (y2.heap[q8]? = some (.cells (tab 32 fun i => bv (rt i)) 39 (0, 0))) := Lib.hid (h1.bx _ (List.mem_cons_of_mem _ (List.mem_cons_self ..))).1; clear HA2 h1 h2 h3)
                | ((with_reducible refine wpList_store_row (P := Tryd.prog) (w := y2) ?_ 39 (.tmp 8) (.tmp 90) ?_ q8 (tab 32 fun i => bv (X i)) ?_ ?_ 39 (tab 32 fun i => bv (rt i)) HK8.out (infH _) ?_ (one_bv _ _) ?_); (· exact rfl); (· exact rfl); (· exact rfl); (· exact rfl); (· rw [tab_size, tab_size])))
              have HB3 := Lib.hid ((HB2.out.sub (bx' := [⟨q8, 39, 32, fun i => bv (rt i)⟩, ⟨q12, 67, 33, pt a lf⟩]) (fun b hb => by
                rcases List.mem_cons.1 hb with rfl | hb
                · exact (List.mem_cons_of_mem _ (List.mem_cons_self ..))
                rcases List.mem_cons.1 hb with rfl | hb
                · exact (List.mem_cons_self ..)
                · cases hb)).put (g := fun i => bv (X i)) (fun c hc => by
                have a2 := HQ12.out
                simp only [List.mem_cons, List.not_mem_nil, or_false] at hc
                subst hc
                simp only
                omega))
              clear HB2 HK8 HL8 HLf
              generalize y2.setRow q8 (tab 32 fun i => bv (X i)) = y3 at *
              have hw1 : wrap64 ((n : Int) + 1) = ((n + 1 : Nat) : Int) := by have := HN9.out; unfold wrap64; omega
              have HW1 := Lib.hid hw1
              go_wp2_with (fail)
              go_roundw
              case rel => exact ⟨n + 1, by have := HLT.out; omega, by have := HN9.out; omega, by go_num, Lib.hid ⟨Ts1, Tt1, M1, A1, N1, B1, X, put f I lf, HB3.out.sub (fun b hb => by
                rcases List.mem_cons.1 hb with rfl | hb
                · exact (List.mem_cons_self ..)
                · cases hb), HMN1.out, HTR.out.1, HT.out.2.trans HTR.out.2, by have := HLL.out; have := HN1L.out; omega, by have := HLL.out; have := HA1.out; omega, by have := HLL.out; have := HB1L.out; omega⟩⟩
              case measure => first | exact meas_lp HLT.out HW1.out | exact meas_nw HLT.out
      · go_wp2_with (fail)
        go_meet
        case rel => exact ⟨rfl, n, h20, Ts, Tt, M, A, N, B, rt, f, HGm.out, HMN.out, HT.out.1, HT.out.2, HLL.out.1, HLL.out.2.1, HLL.out.2.2.1⟩
  case rest =>
    obtain ⟨rfl, n, hn, Ts, Tt, M, A, N, B, rt, f, hG, hMN, hT1, hT2, hNl, hAl, hBl⟩ := hcut
    have HG1 := Lib.hid hG
    have HTM := Lib.hid (Tr.alike hMN hT1)
    have HEM := Lib.hid (hT2.trans (Ext.alike hMN.symm))
    have HML : Hid (M.length ≤ 400) := Lib.hid (by have := hMN.len; omega)
    clear hG hMN hT1 hT2 hNl hAl hBl
    have hex : ∀ i, ∃ a : Int, i < len → ∃ c off, AP = some ⟨c, off, none⟩ ∧ w.cell? ⟨c, off + i * 33, none⟩ = some (.int .i64 a) := fun i => by
      by_cases h : i < len
      · obtain ⟨c, off, a, lf, h1, h2, _⟩ := HC.out i h
        exact ⟨a, fun _ => ⟨c, off, h1, h2⟩⟩
      · exact ⟨0, fun h' => absurd h' h⟩
    obtain ⟨ar, har⟩ := Classical.axiomOfChoice hex
    obtain ⟨Ix, hix⟩ := Classical.axiomOfChoice (fun i => u64_modn (IntKind.i64.wrap (ar i + 1)) n2 HN2.out.2.1)
    have HAR := Lib.hid har
    have HIX := Lib.hid hix
    clear hex har hix
    have HA := Lib.hid HG1.out.copy
    go_upto_region 22 with (first
      | (go_at_call 28; (with_reducible refine HA.out.mono ?_); rintro e y1 ⟨c2, he, T2, h1, h2, h4⟩; obtain rfl : e = _ := he; have HB1 := Lib.hid h4; have HC1 := Lib.hid (And.intro h1 h2); clear HA h1 h2 h4))
    have HA := Lib.hid HB1.out.asked2
    go_upto_region 24 with (first
      | (go_at_call 27; (with_reducible refine HA.out.mono ?_); rintro e y2 ⟨av, he, h1, h0, h4, hk⟩; obtain rfl : e = _ := he; have HB2 := Lib.hid h4; have HK2 := Lib.hid hk; clear HA h1 h0 h4 hk))
    have hfr : ∀ j, Foot T2 kb fb j → j < y2.heap.size ∧ ¬ Ts j ∧ ∀ b, b ∈ [(⟨q8, 39, 32, fun i => bv (rt i)⟩ : Bx)] → b.q ≠ j := fun j hj => by
      have hz := HK2.out.size
      have q8l := HG1.out.lt (List.mem_cons_self ..)
      have bx8 := HG1.out.bx _ (List.mem_cons_self ..)
      have k1 := HG1.out.k1.2.1
      have k2 := HG1.out.k2.2.1
      have hsz : wc.heap.size ≤ y1.heap.size := by
        obtain ⟨pb, av', sv, ho⟩ := HC1.out.1.own
        have := HC1.out.2 _ ho.ts
        omega
      rcases hj with hj | hj | hj
      · have h5 := HC1.out.2 j hj
        refine ⟨by omega, fun h => by have := HG1.out.tsl j h; omega, fun b hb => ?_⟩
        rcases List.mem_cons.1 hb with rfl | hb
        · simp only at q8l ⊢; omega
        · cases hb
      · subst hj
        refine ⟨by omega, HG1.out.st.n1, fun b hb => ?_⟩
        rcases List.mem_cons.1 hb with rfl | hb
        · exact bx8.2.2.2.2.1
        · cases hb
      · subst hj
        refine ⟨by omega, HG1.out.st.n2, fun b hb => ?_⟩
        rcases List.mem_cons.1 hb with rfl | hb
        · exact bx8.2.2.2.2.2.1
        · cases hb
    have HE0 : Hid (Ew w s t kb fb Ts Tt M [] N B (.slice none 0 0) 0 (fun _ _ => 0#8) (Foot T2 kb fb) (fun y => IsSt y T2 c2 kb fb ⟨M, []⟩) [⟨q8, 39, 32, fun i => bv (rt i)⟩] y2) := Lib.hid ⟨HB2.out, HC1.out.1.kept HK2.out (fun j q1 q2 => by have := HG1.out.tsl j q2; have := (HC1.out.2 j q1).1; omega) HG1.out.st.n1 HG1.out.st.n2, beside_st _ _ _ _ _, hfr, World.ownsRow_nil _ _ _ _, fun j e => (by cases e)⟩
    clear hfr HB2 HK2
    have HT2F : Hid ((∀ j, T2 j → wc.heap.size ≤ j) ∧ (∀ j, Tt j → j < wc.heap.size) ∧ w.heap.size ≤ wc.heap.size) := Lib.hid ⟨fun j h => (HC1.out.2 j h).1, HG1.out.ttl, HG1.out.below.size⟩
    clear HG1 HB1 HC1
    obtain ⟨m, hm⟩ : ∃ m, min len 6 = m := ⟨_, rfl⟩
    have HM : Hid (m ≤ len ∧ m ≤ 6) := Lib.hid (by omega)
    go_upto_region 24 with (fail)
    go_cut [101, 102] (fun v u z => v = .int .i64 (m : Int) ∧ u = .int .i64 0 ∧ Hid (Ew w s t kb fb Ts Tt M [] N B (.slice none 0 0) 0 (fun _ _ => 0#8) (Foot T2 kb fb) (fun y => IsSt y T2 c2 kb fb ⟨M, []⟩) [⟨q8, 39, 32, fun i => bv (rt i)⟩] z))
    case first =>
      by_cases h6 : (len : Int) ≤ 6
      · have hml : (len : Int) = (m : Int) := by omega
        go_wp2_with (fail)
        go_meet
        case rel => exact ⟨by first | rfl | exact congrArg (Value.int .i64) hml, rfl, HE0⟩
      · have hml : (6 : Int) = (m : Int) := by omega
        have h7 : (6 : Int) < (len : Int) := by omega
        go_wp2_with (fail)
        go_meet
        case rel => exact ⟨by first | rfl | exact congrArg (Value.int .i64) hml, rfl, HE0⟩
    case rest =>
      obtain ⟨rfl, rfl, HE1⟩ := hcut
      clear HE0 hm
      go_wp2_with (fail)
      go_loopw [15, 102] (fun v i z => ∃ j : Nat, j ≤ m ∧ i = .int .i64 j ∧ Hid (∃ Ts A g, Ew w s t kb fb Ts Tt M A N B v j g (Foot T2 kb fb) (fun y => IsSt y T2 c2 kb fb ⟨M, []⟩) [⟨q8, 39, 32, fun i => bv (rt i)⟩] z ∧ Wants D M rt Ix j A g)) (fun _ i _ => m - (intOf i).toNat)
      case atStart => exact ⟨0, Nat.zero_le _, rfl, Lib.hid ⟨Ts, [], fun _ _ => 0#8, HE1.out, Wants.zero D M rt Ix _⟩⟩
      case round =>
        obtain ⟨j, hj, rfl, hp⟩ := hrel
        obtain ⟨Ts, A, g, hE, hW⟩ := hp.out
        have HE := Lib.hid hE
        have HWA := Lib.hid hW
        clear hE hW hp HE1
        by_cases hjm : j < m
        · have t1 : decide (j < m) = true := by simp; omega
          have HJM : Hid (j < m ∧ j < len) := Lib.hid ⟨hjm, by have := HM.out; omega⟩
          clear hj hjm
          go_upto_region 27 with (fail)
          obtain ⟨c, off, hAP, hcell⟩ := HAR.out j HJM.out.2
          subst hAP
          obtain ⟨o, ho⟩ : ∃ o, off + j * 33 = o := ⟨_, rfl⟩
          rw [ho] at hcell
          have HJO : Hid (j < len ∧ off + j * 33 = o) := Lib.hid ⟨HJM.out.2, ho⟩
          have HJX : Hid ((IntKind.u64.wrap (IntKind.i64.wrap (ar j + 1))).tmod (n2 : Int) = (Ix j : Int) ∧ ¬ n2 = 0 ∧ IntKind.i64.wrap (Ix j : Int) = (Ix j : Int) ∧ IntKind.u64.wrap (Ix j : Int) = (Ix j : Int)) := Lib.hid ⟨(HIX.out j).1, by have := HN2.out; omega, IntWalk.i64_in _ (by have := (HIX.out j).2; have := HN2.out; omega), IntWalk.u64_in _ (by have := (HIX.out j).2; have := HN2.out; omega)⟩
          have HI : Hid (Ix j < 2 ^ D) := Lib.hid (by rw [HN2.out.1]; exact (HIX.out j).2)
          have HCL := Lib.hid hcell
          clear ho hcell t1
          have HEd := Lib.hid (HE.out.next (Below.refl _ _).drew)
          refine wp_region_og (fun z : World => IsTab z q8 39 32 (fun i => bv (rt i)) ∧ z.cell? ⟨c, o, none⟩ = some (.int .i64 (ar j))) (.take 0 (.take 1 (.take 2 (.take 3 (.take 4 (.take 5 (.take 6 (.take 7 (.take 8 (.take 9 (.take 10 (.take 11 (.take 12 (.take 13 (.take 14 (.two 15 (.take 16 (.take 17 (.take 18 (.one 19 (.one 20 (.one 21 .done)))))) 19 (.one 15 (.take 16 (.take 17 (.take 18 (.one 20 (.one 21 .done)))))))))))))))))))))) (by kernel_rfl) (by as_aux_lemma => kernel_rfl) ⟨((HEd.out.gm.bx _ (List.mem_cons_self ..)).1), (HEd.out.gm.below.cell (p := ⟨c, o, none⟩) (inHeap HCL.out)).trans HCL.out⟩ ?_
          generalize wr.drew = x1 at *
          clear HE
          refine og_tk (some 106) (.pointer (some ⟨s, 0, none⟩)) rfl rfl (by go_simp) (fun _ _ => by simp [execOp, go_sem]) ?_
          simp only [Act.put, pS]
          refine og_tk (some 107) (.int .i64 D) rfl rfl (by go_simp) (fun _ _ => by simp [execOp, go_sem]) ?_
          simp only [Act.put, pS]
          refine og_ld (some 108) 39 (.tmp 8) (.pointer (some ⟨q8, 0, none⟩)) (.agg (tab 32 fun i => bv (rt i))) rfl rfl (by go_simp) rfl rfl (fun y hy => loadHb hy.1) ?_
          simp only [Act.put, pS]
          refine og_tk (some 109) (.slice (some ⟨c, off, none⟩) len cap) rfl rfl (by go_simp) (fun _ _ => by simp [execOp, go_sem]) ?_
          simp only [Act.put, pS]
          refine og_tk (some 110) (.int .i64 j) rfl rfl (by go_simp) (fun _ _ => by simp [execOp, go_sem]) ?_
          simp only [Act.put, pS]
          refine og_tk (some 111) (.pointer (some ⟨c, o, none⟩)) rfl rfl (by go_simp) (fun y hy => by have h1 := HJO.out.1; have h2 := HJO.out.2; simp [execOp, go_sem, h1, h2, add_at, Result.andThen, Tryd.underlying64]) ?_
          simp only [Act.put, pS]
          refine og_tk (some 112) (.pointer (some ⟨c, o, none⟩)) rfl rfl (by go_simp) (fun _ _ => by simp [execOp, go_sem]) ?_
          simp only [Act.put, pS]
          refine og_ld (some 113) 3 (.tmp 112) (.pointer (some ⟨c, o, none⟩)) (.int .i64 (ar j)) rfl rfl (by go_simp) rfl rfl (fun y hy => by have h := hy.2; simp [Instr.loadAt, go_sem, h, Tryd.underlying3]) ?_
          simp only [Act.put, pS]
          refine og_tk (some 114) (.int .i64 (IntKind.i64.wrap (ar j + 1))) rfl rfl (by go_simp) (fun _ _ => by simp [execOp, go_sem]) ?_
          simp only [Act.put, pS]
          refine og_tk (some 115) (.int .u64 (IntKind.u64.wrap (IntKind.i64.wrap (ar j + 1)))) rfl rfl (by go_simp) (fun _ _ => by simp [execOp, go_sem]) ?_
          simp only [Act.put, pS]
          refine og_tk (some 116) (.int .i64 D) rfl rfl (by go_simp) (fun _ _ => by simp [execOp, go_sem]) ?_
          simp only [Act.put, pS]
          refine og_tk (some 117) (.int .u64 (IntKind.u64.wrap (D : Int))) rfl rfl (by go_simp) (fun _ _ => by simp [execOp, go_sem]) ?_
          simp only [Act.put, pS]
          refine og_tk (some 118) (.int .u64 n2) rfl rfl (by go_simp) (fun y hy => by have h := HSH.out; simp [execOp, go_sem, h, Result.andThen]) ?_
          simp only [Act.put, pS]
          refine og_tk (some 119) (.int .u64 (Ix j)) rfl rfl (by go_simp) (fun _ _ => by have h := HJX.out; simp [execOp, go_sem, h, Result.andThen]) ?_
          simp only [Act.put, pS]
          refine og_tk (some 120) (.int .i64 (Ix j)) rfl rfl (by go_simp) (fun _ _ => by have h := HJX.out; simp [execOp, go_sem, h, Result.andThen]) ?_
          simp only [Act.put, pS]
          have hr := Tr.read D (Ix j) HTM.out HI.out
          have HHAS := Lib.hid hr.1
          clear hr
          refine og_two ?_ ?_
          · as_aux_lemma =>
              have hA := HEd.out.gm.readK (k := D) (by have := HWA.out.2.2.2; have := HJM.out; have := HM.out; omega) (Nat.le_trans HD.out.1 (by decide)) HI.out (Nat.le_refl _) HHAS.out (.inl rfl)
              unfold dv at hA
              have HA := Lib.hid hA
              clear hA
              refine og_of rfl (by go_simp) fun K' hK' => ?_
              go_simp
              refine HA.out.mono ?_
              rintro e x2 ⟨xv, E, he, hhit, _, Ts1, g1, g2, g3⟩
              obtain rfl : e = _ := he
              obtain ⟨hx, hE⟩ := hhit rfl
              subst hE
              rw [if_neg (Nat.lt_irrefl _)] at g1
              have HX := Lib.hid hx
              have HE2 := Lib.hid (HEd.out.step g1 g2 g3)
              refine hK' _ _ ⟨((HE2.out.gm.bx _ (List.mem_cons_self ..)).1), (HE2.out.gm.below.cell (p := ⟨c, o, none⟩) (inHeap HCL.out)).trans HCL.out⟩ ?_
              clear hK' K' HA hhit hx g1 g2 g3
              try simp only [Act.put, pS]
              refine og_tk (some 105) (.tuple #[.agg (tab 32 fun i => bv (xv i)), .nilIface]) rfl rfl (by go_simp) (fun _ _ => by simp [execOp, go_sem]) ?_
              simp only [Act.put, pS]
              refine og_tk (some 122) (.agg (tab 32 fun i => bv (xv i))) rfl rfl (by go_simp) (fun _ _ => by simp [execOp, go_sem]) ?_
              simp only [Act.put, pS]
              refine og_tk (some 123) (.nilIface) rfl rfl (by go_simp) (fun _ _ => by simp [execOp, go_sem]) ?_
              simp only [Act.put, pS]
              refine og_f rfl (by go_simp) fun K' hK' => ?_
              unfold Oper.wp
              rw [exec_allocH _ _ _ rfl, Oper.upon_value]
              have HE3 := Lib.hid (HE2.out.alloc 39 32 (fun _ => bv 0#8))
              have HNQ : Hid (q8 ≠ x2.heap.size) := Lib.hid (by have := HE2.out.gm.lt (List.mem_cons_self ..); simp only at this; omega)
              refine hK' _ _ ⟨((HE3.out.gm.bx _ (List.mem_cons_of_mem _ (List.mem_cons_self ..))).1), (HE3.out.gm.below.cell (p := ⟨c, o, none⟩) (inHeap HCL.out)).trans HCL.out⟩ ?_
              clear hK' K'
              try simp only [Act.put, pS]
              generalize x2.alloc (.cells (tab 32 fun _ => bv 0#8) 39) = x3 at *
              generalize x2.heap.size = q17 at *
              refine og_f rfl (by go_simp) fun K' hK' => ?_
              refine wp_store_row 39 (.tmp 17) (.tmp 122) rfl q17 (tab 32 fun i => bv (xv i)) rfl rfl 39 (tab 32 fun _ => bv 0#8) ((HE3.out.gm.bx _ (List.mem_cons_self ..)).1) (infH _) (by simp only [tab_size]) (one_bv _ _) ?_
              have HE4 := Lib.hid (HE3.out.put (f := fun i => bv (xv i)) (fun c hc => by
                have h1 := HNQ.out
                simp only [List.mem_cons, List.not_mem_nil, or_false] at hc
                subst hc
                exact h1))
              refine hK' _ _ ⟨((HE4.out.gm.bx _ (List.mem_cons_of_mem _ (List.mem_cons_self ..))).1), (HE4.out.gm.below.cell (p := ⟨c, o, none⟩) (inHeap HCL.out)).trans HCL.out⟩ ?_
              clear hK' K'
              try simp only [Act.put, pS]
              generalize x3.setRow q17 (tab 32 fun i => bv (xv i)) = x4 at *
              refine og_f rfl (by go_simp) fun K' hK' => ?_
              go_simp
              refine hK' _ _ ⟨((HE4.out.gm.bx _ (List.mem_cons_of_mem _ (List.mem_cons_self ..))).1), (HE4.out.gm.below.cell (p := ⟨c, o, none⟩) (inHeap HCL.out)).trans HCL.out⟩ ?_
              clear hK' K'
              try simp only [Act.put, pS]
              refine og_done (NoPanic.normal ?_)
              obtain ⟨i0, hi0⟩ := infHs
              have HI0 := Lib.hid hi0
              have HRW := Lib.hid ((HE4.out.next (ba x4 (.cells (tab 32 fun i => bv (xv i)) 39))).row)
              have HLW := Lib.hid (loadHb ((HE4.out.gm.bx _ (List.mem_cons_self ..)).1))
              have HBH := Lib.hid (buildHa xv x4)
              have HSR := Lib.hid (src1h x4 xv)
              have HB6 : Hid (j + 1 ≤ maxLen ∧ (j + 1) * 32 ≤ 140737488355328 ∧ 0 < 32 ∧ w.heap.size ≤ (x4.alloc (.cells (tab 32 fun i => bv (xv i)) 39)).heap.size) := Lib.hid ⟨by unfold maxLen; have := HJM.out; have := HM.out; omega, by have := HJM.out; have := HM.out; omega, by decide, (HE4.out.next (ba x4 (.cells (tab 32 fun i => bv (xv i)) 39))).gm.below.size⟩
              have hw1 : wrap64 ((j : Int) + 1) = ((j + 1 : Nat) : Int) := by have := HJM.out; have := HM.out; unfold wrap64; omega
              have HW1 := Lib.hid hw1
              clear hi0
              go_wp2_with (first
                | ((with_reducible refine wpList_loadE (P := Tryd.prog) (w := x4) (ty := 39) (x := .tmp 17) (p := .pointer (some ⟨q17, 0, none⟩)) (v := .agg (tab 32 fun i => bv (xv i))) ?_ ?_ ?_ HLW.out ?_); (· exact rfl); (· exact rfl); (· exact rfl))
                | ((with_reducible refine wpList_build1 (P := Tryd.prog) (w := x4) (t := 56) (x := .tmp 127) (p := .agg (tab 32 fun i => bv (xv i))) (v := .slice (some ⟨x4.heap.size, 0, none⟩) 1 1) (w' := x4.alloc (.cells (tab 32 fun i => bv (xv i)) 39)) ?_ ?_ ?_ HBH.out ?_); (· exact rfl); (· exact rfl); (· exact rfl))
                | (at_builtin; (with_reducible refine wpList_append_any (P := Tryd.prog) (w := x4.alloc (.cells (tab 32 fun i => bv (xv i)) 39)) ?_ (.tmp 126) (.tmp 128) 56 ?_ w.heap.size 39 i0 (dv fun _ => 0#8) 32 32 undHs HI0.out zcells HB6.out.2.2.1 u15 j (flat j g) ?_ HRW.out (some ⟨x4.heap.size, 0, none⟩) 1 1 (flat 1 fun _ => xv) ?_ HSR.out (flat_one _ _) HB6.out.1 HB6.out.2.1 HB6.out.2.2.2 ?_); (· exact rfl); (· exact rfl); (· exact rfl); (· exact rfl); intro V9 y9 hown9 hgr9 hat9))
              go_roundw
              case rel => exact ⟨j + 1, HJM.out.1, by go_num, Lib.hid ⟨Ts1, _, _, ((HE4.out.next (ba x4 (.cells (tab 32 fun i => bv (xv i)) 39))).sub (bx' := [⟨q8, 39, 32, fun i => bv (rt i)⟩]) (fun b hb => List.mem_cons_of_mem _ hb)).grown hown9 hgr9 hat9, HWA.out.more (Nat.le_trans HD.out.1 (by decide)) (by rw [HX.out])⟩⟩
              case measure => first | exact meas_lp HJM.out.1 HW1.out | exact meas_nw HJM.out.1
          · as_aux_lemma =>
              refine og_of rfl (by go_simp) fun K' hK' => ?_
              unfold Oper.wp
              rw [exec_allocH _ _ _ rfl, Oper.upon_value]
              have HE2 := Lib.hid (HEd.out.alloc 39 32 (fun _ => bv 0#8))
              have HNQ : Hid (q8 ≠ x1.heap.size) := Lib.hid (by have := HEd.out.gm.lt (List.mem_cons_self ..); simp only at this; omega)
              refine hK' _ _ ⟨((HE2.out.gm.bx _ (List.mem_cons_of_mem _ (List.mem_cons_self ..))).1), (HE2.out.gm.below.cell (p := ⟨c, o, none⟩) (inHeap HCL.out)).trans HCL.out⟩ ?_
              clear hK' K'
              try simp only [Act.put, pS]
              generalize x1.alloc (.cells (tab 32 fun _ => bv 0#8) 39) = x2 at *
              generalize x1.heap.size = q17 at *
              have hA := HE2.out.gm.readK (k := D) (by have := HWA.out.2.2.2; have := HJM.out; have := HM.out; omega) (Nat.le_trans HD.out.1 (by decide)) HI.out (Nat.le_refl _) HHAS.out (.inl rfl)
              unfold dv at hA
              have HA := Lib.hid hA
              clear hA
              refine og_f rfl (by go_simp) fun K' hK' => ?_
              go_simp
              refine HA.out.mono ?_
              rintro e x3 ⟨xv, E, he, hhit, _, Ts1, g1, g2, g3⟩
              obtain rfl : e = _ := he
              obtain ⟨hx, hE⟩ := hhit rfl
              subst hE
              rw [if_neg (Nat.lt_irrefl _)] at g1
              have HX := Lib.hid hx
              have HE3 := Lib.hid (HE2.out.step g1 g2 g3)
              refine hK' _ _ ⟨((HE3.out.gm.bx _ (List.mem_cons_of_mem _ (List.mem_cons_self ..))).1), (HE3.out.gm.below.cell (p := ⟨c, o, none⟩) (inHeap HCL.out)).trans HCL.out⟩ ?_
              clear hK' K' HA hhit hx g1 g2 g3
              try simp only [Act.put, pS]
              refine og_tk (some 105) (.tuple #[.agg (tab 32 fun i => bv (xv i)), .nilIface]) rfl rfl (by go_simp) (fun _ _ => by simp [execOp, go_sem]) ?_
              simp only [Act.put, pS]
              refine og_tk (some 122) (.agg (tab 32 fun i => bv (xv i))) rfl rfl (by go_simp) (fun _ _ => by simp [execOp, go_sem]) ?_
              simp only [Act.put, pS]
              refine og_tk (some 123) (.nilIface) rfl rfl (by go_simp) (fun _ _ => by simp [execOp, go_sem]) ?_
              simp only [Act.put, pS]
              refine og_f rfl (by go_simp) fun K' hK' => ?_
              refine wp_store_row 39 (.tmp 17) (.tmp 122) rfl q17 (tab 32 fun i => bv (xv i)) rfl rfl 39 (tab 32 fun _ => bv 0#8) ((HE3.out.gm.bx _ (List.mem_cons_self ..)).1) (infH _) (by simp only [tab_size]) (one_bv _ _) ?_
              have HE4 := Lib.hid (HE3.out.put (f := fun i => bv (xv i)) (fun c hc => by
                have h1 := HNQ.out
                simp only [List.mem_cons, List.not_mem_nil, or_false] at hc
                subst hc
                exact h1))
              refine hK' _ _ ⟨((HE4.out.gm.bx _ (List.mem_cons_of_mem _ (List.mem_cons_self ..))).1), (HE4.out.gm.below.cell (p := ⟨c, o, none⟩) (inHeap HCL.out)).trans HCL.out⟩ ?_
              clear hK' K'
              try simp only [Act.put, pS]
              generalize x3.setRow q17 (tab 32 fun i => bv (xv i)) = x4 at *
              refine og_f rfl (by go_simp) fun K' hK' => ?_
              go_simp
              refine hK' _ _ ⟨((HE4.out.gm.bx _ (List.mem_cons_of_mem _ (List.mem_cons_self ..))).1), (HE4.out.gm.below.cell (p := ⟨c, o, none⟩) (inHeap HCL.out)).trans HCL.out⟩ ?_
              clear hK' K'
              try simp only [Act.put, pS]
              refine og_done (NoPanic.normal ?_)
              obtain ⟨i0, hi0⟩ := infHs
              have HI0 := Lib.hid hi0
              have HRW := Lib.hid ((HE4.out.next (ba x4 (.cells (tab 32 fun i => bv (xv i)) 39))).row)
              have HLW := Lib.hid (loadHb ((HE4.out.gm.bx _ (List.mem_cons_self ..)).1))
              have HBH := Lib.hid (buildHa xv x4)
              have HSR := Lib.hid (src1h x4 xv)
              have HB6 : Hid (j + 1 ≤ maxLen ∧ (j + 1) * 32 ≤ 140737488355328 ∧ 0 < 32 ∧ w.heap.size ≤ (x4.alloc (.cells (tab 32 fun i => bv (xv i)) 39)).heap.size) := Lib.hid ⟨by unfold maxLen; have := HJM.out; have := HM.out; omega, by have := HJM.out; have := HM.out; omega, by decide, (HE4.out.next (ba x4 (.cells (tab 32 fun i => bv (xv i)) 39))).gm.below.size⟩
              have hw1 : wrap64 ((j : Int) + 1) = ((j + 1 : Nat) : Int) := by have := HJM.out; have := HM.out; unfold wrap64; omega
              have HW1 := Lib.hid hw1
              clear hi0
              go_wp2_with (first
                | ((with_reducible refine wpList_loadE (P := Tryd.prog) (w := x4) (ty := 39) (x := .tmp 17) (p := .pointer (some ⟨q17, 0, none⟩)) (v := .agg (tab 32 fun i => bv (xv i))) ?_ ?_ ?_ HLW.out ?_); (· exact rfl); (· exact rfl); (· exact rfl))
                | ((with_reducible refine wpList_build1 (P := Tryd.prog) (w := x4) (t := 56) (x := .tmp 127) (p := .agg (tab 32 fun i => bv (xv i))) (v := .slice (some ⟨x4.heap.size, 0, none⟩) 1 1) (w' := x4.alloc (.cells (tab 32 fun i => bv (xv i)) 39)) ?_ ?_ ?_ HBH.out ?_); (· exact rfl); (· exact rfl); (· exact rfl))
                | (at_builtin; (with_reducible refine wpList_append_any (P := Tryd.prog) (w := x4.alloc (.cells (tab 32 fun i => bv (xv i)) 39)) ?_ (.tmp 126) (.tmp 128) 56 ?_ w.heap.size 39 i0 (dv fun _ => 0#8) 32 32 undHs HI0.out zcells HB6.out.2.2.1 u15 j (flat j g) ?_ HRW.out (some ⟨x4.heap.size, 0, none⟩) 1 1 (flat 1 fun _ => xv) ?_ HSR.out (flat_one _ _) HB6.out.1 HB6.out.2.1 HB6.out.2.2.2 ?_); (· exact rfl); (· exact rfl); (· exact rfl); (· exact rfl); intro V9 y9 hown9 hgr9 hat9))
              go_roundw
              case rel => exact ⟨j + 1, HJM.out.1, by go_num, Lib.hid ⟨Ts1, _, _, ((HE4.out.next (ba x4 (.cells (tab 32 fun i => bv (xv i)) 39))).sub (bx' := [⟨q8, 39, 32, fun i => bv (rt i)⟩]) (fun b hb => List.mem_cons_of_mem _ hb)).grown hown9 hgr9 hat9, HWA.out.more (Nat.le_trans HD.out.1 (by decide)) (by rw [HX.out])⟩⟩
              case measure => first | exact meas_lp HJM.out.1 HW1.out | exact meas_nw HJM.out.1
        · as_aux_lemma =>
            have e : m = j := by omega
            subst e
            clear hj hjm
            generalize u15 = V at *
            have HA := Lib.hid HE.out.gm.asked2
            go_upto_region 33 with (first
              | (go_at_call 27; (with_reducible refine HA.out.mono ?_); rintro e x1 ⟨av, he, h1, h0, h4, hk⟩; obtain rfl : e = _ := he; have HB1 := Lib.hid h4; have HK1 := Lib.hid hk; have HU := Lib.hid h1; have HU0 := Lib.hid h0; clear HA h1 h0 h4 hk))
            have HN := Lib.hid (New_walk x1 HB1.out.ktab (lowB_le HB1.out.ktab))
            go_upto_region 34 with (first
              | (go_at_call 13; (with_reducible refine HN.out.mono ?_); rintro e x2 ⟨s3, T3, k3, f3, he, h1, h2, h3, h4, h5⟩; obtain rfl : e = _ := he; have HS3 := Lib.hid (And.intro h1 (And.intro h2 (And.intro h3 h4))); clear HN h1 h2 h3 h4 h5))
            obtain ⟨ua, uc, hU, _⟩ := row_hq (show x1.ownsRow 0 39 32 av A.length (flat A.length fun k => A.getD k fun _ => 0#8) from HU.out)
            subst hU
            have hsz1 := HK1.out.size
            have hsz2 := HS3.out.2.1.size
            have hown := HE.out.row
            obtain ⟨L, hL⟩ : ∃ L : Nat → Hx, (fun k => A.getD k fun _ => 0#8) = L := ⟨_, rfl⟩
            have hLk : ∀ k, A.getD k (fun _ => 0#8) = L k := fun k => congrFun hL k
            have hU2 : x1.ownsRow 0 39 32 (.slice ua A.length uc) A.length (flat A.length L) := by rw [← hL]; exact HU.out
            have hex : Ex w s3 t k3 f3 T3 Tt (zs 16) [] N B c2 kb fb T2 ⟨M, []⟩ V m g (.slice ua A.length uc) A.length L [⟨q8, 39, 32, fun i => bv (rt i)⟩] x2 := by
              have n3 : ∀ j, j < x1.heap.size → ¬ T3 j ∧ j ≠ k3 ∧ j ≠ f3 := fun j hj => ⟨fun h => by have := HS3.out.2.2.1 j (.inl h); omega, fun h => by have := HS3.out.2.2.1 k3 (.inr (.inl rfl)); omega, fun h => by have := HS3.out.2.2.1 f3 (.inr (.inr rfl)); omega⟩
              refine ⟨HB1.out.swap HS3.out.2.1 HS3.out.1 HS3.out.2.2.1 HS3.out.2.2.2, (HE.out.be Ts _ x1 HE.out.sd HK1.out fun k h1 h2 => (HE.out.fr k h1).2.1 h2).below HS3.out.2.1, fun j hj => by have := (HE.out.fr j (.inl hj)).1; omega, fun j hj => ?_, (Kept.ofBelow (S := fun _ => False) HS3.out.2.1).row (HK1.out.row HE.out.row fun j e h => (HE.out.vs j e).1 h) (fun _ _ h => h), fun j e => ?_, (Kept.ofBelow (S := fun _ => False) HS3.out.2.1).row hU2 (fun _ _ h => h), fun j e => ?_⟩
              · have f := HE.out.fr j hj
                have q := n3 j (by have := f.1; omega)
                have z := HT2F.out
                refine ⟨q.1, fun h => ?_, q.2.1, q.2.2, ?_, f.2.2⟩
                · rcases hj with hj | hj | hj
                  · have := z.1 j hj; have := z.2.1 j h; omega
                  · exact HE.out.gm.k1.2.2 (hj ▸ h)
                  · exact HE.out.gm.k2.2.2 (hj ▸ h)
                · rcases hj with hj | hj | hj
                  · have := z.1 j hj; have := z.2.2; omega
                  · exact hj ▸ HE.out.gm.k1.1
                  · exact hj ▸ HE.out.gm.k2.1
              · have f := HE.out.vs j e
                have q := n3 j (by have := own_lt hown e; omega)
                exact ⟨q.1, f.2.1, q.2.1, q.2.2, f.2.2.2.2⟩
              · have f := (HU0.out j e).1
                have q := n3 j (by have := HE.out.gm.tsl j f; omega)
                exact ⟨q.1, q.2.1, q.2.2, fun h => (HE.out.fr j h).2.1 f, fun b hb h => (HE.out.gm.bx b hb).2.2.1 (h ▸ f)⟩
            have HMA : Hid (A.length ≤ 102 ∧ ∀ k, k < A.length → Good M (L k)) := Lib.hid ⟨by have := HWA.out.2.2.2; have := HM.out; omega, fun k hk => by
              obtain ⟨r, l, hr, hl, hx⟩ := HWA.out.2.1 (A.getD k fun _ => 0#8) (by rw [List.getD_eq_getElem?_getD, List.getElem?_eq_getElem hk]; exact List.getElem_mem hk)
              rw [← hLk, hx]
              exact Tr.good D (Ix r) HTM.out (by rw [HN2.out.1]; exact (HIX.out r).2) l hl⟩
            have HWW : Hid (∀ r l, r < m → l < D → ∃ x, x < A.length ∧ Wt.key (L x) = Wt.key (hhw M D (Ix r) rt l)) := Lib.hid (fun r l hr hl => by
              obtain ⟨a, ha, hk⟩ := HWA.out.2.2.1 r l hr hl
              obtain ⟨x, hx, rfl⟩ := List.getElem_of_mem ha
              exact ⟨x, hx, by rw [← hLk, List.getD_eq_getElem?_getD, List.getElem?_eq_getElem hx]; exact hk⟩)
            have HWO : Hid (∀ x, x < A.length → ∃ r l, r < m ∧ l < D ∧ Wt.key (L x) = Wt.key (hhw M D (Ix r) rt l)) := Lib.hid (fun x hx => by
              obtain ⟨r, l, hr, hl, e⟩ := HWA.out.2.1 (A.getD x fun _ => 0#8) (by rw [List.getD_eq_getElem?_getD, List.getElem?_eq_getElem hx]; exact List.getElem_mem hx)
              exact ⟨r, l, hr, hl, by rw [← hLk, e]⟩)
            have HWG := Lib.hid HWA.out.1
            obtain ⟨nA, hnA⟩ : ∃ x, A.length = x := ⟨_, rfl⟩
            rw [hnA] at hex HMA HWW HWO ⊢
            have HX0 := Lib.hid hex
            clear hex hnA hown hL hLk hU2 hsz1 hsz2 HE HB1 HK1 HU HU0 HS3 HWA
            go_upto_region 36 with (fail)
            go_wp2_with (fail)
            go_loopw [142] (fun i z => ∃ j : Nat, j ≤ nA ∧ i = .int .i64 j ∧ Hid (∃ T2 Af Ml, Ex w s3 t k3 f3 T3 Tt Ml [] N B c2 kb fb T2 ⟨M, Af⟩ V m g (.slice ua nA uc) nA L [⟨q8, 39, 32, fun i => bv (rt i)⟩] z ∧ Ext Ml M ∧ (∀ r, r < j → Wt.has Ml (L r) = true) ∧ Af.length ≤ j ∧ Ml.length ≤ 16 + j)) (fun i _ => nA - (intOf i).toNat)
            case atStart => exact ⟨0, Nat.zero_le _, rfl, Lib.hid ⟨T2, [], zs 16, HX0.out, HEM.out, fun r h => by omega, Nat.zero_le _, by rw [zs_len]; omega⟩⟩
            case round =>
              obtain ⟨j, hj, rfl, hp⟩ := hrel
              obtain ⟨T2, Af, Ml, hX, hE, hH, hA, hM⟩ := hp.out
              have HX := Lib.hid hX
              have HE := Lib.hid (And.intro hE (And.intro hH (And.intro hA hM)))
              clear hX hE hH hA hM hp HX0
              by_cases hjm : j < nA
              · have t1 : decide (j < nA) = true := by simp; omega
                have HJN : Hid (j < nA) := Lib.hid hjm
                have hld : ∀ k, k < nA → ∃ gA, ua = some ⟨gA, 0, none⟩ ∧ ∀ y, Below wr.heap.size wr y → (Instr.loadAt 39 (.pointer (some ⟨gA, 32 * k, none⟩))).run Tryd.prog y = .ok (.agg (tab 32 fun i => bv (L k i))) y := by
                  obtain ⟨a', c', hU, h⟩ := row_hq HX.out.asr
                  cases hU
                  exact h
                obtain ⟨gA, hgA, hl⟩ := hld j hjm
                subst hgA
                have hl0 := hl wr (Below.refl _ _)
                rw [Nat.mul_comm 32 j] at hl0
                obtain ⟨pj, hp1, hp2⟩ := HMA.out.2 j hjm
                obtain ⟨xh, hxh⟩ : ∃ x, L j = x := ⟨_, rfl⟩
                rw [hxh] at hl0 hp1 hp2
                have HP := Lib.hid (And.intro hxh (And.intro hp1 hp2))
                have HL := Lib.hid hl0
                clear hld hl hl0 hp1 hp2 hxh hj
                as_aux_lemma =>
                  go_upto_region 39 with (first
                    | ((with_reducible refine wpList_loadE (P := Tryd.prog) (w := wr) (ty := 39) (x := .tmp 144) (p := .pointer (some ⟨gA, j * 32, none⟩)) (v := .agg (tab 32 fun i => bv (xh i))) ?_ ?_ ?_ HL.out ?_); (· exact rfl); (· exact rfl); (· exact rfl))
                    | ((with_reducible refine wpList_store_row (P := Tryd.prog) (w := wr.alloc (.cells zh 39)) ?_ 39 (.tmp 22) (.tmp 145) ?_ wr.heap.size (tab 32 fun i => bv (xh i)) ?_ ?_ 39 zh (heap_alloc_last wr _) (infH _) ?_ (one_bv _ _) ?_); (· exact rfl); (· exact rfl); (· exact rfl); (· exact rfl); (· rw [← HZH.out, tab_size, tab_size]); rw [World.setRow_alloc_new]; simp only [Act.put]))
                  clear hjm t1 HL
                  have HX1 := Lib.hid (HX.out.alloc 39 32 (fun i => bv (xh i)))
                  clear HX
                  generalize wr.alloc (.cells (tab 32 fun i => bv (xh i)) 39) = y1 at *
                  generalize wr.heap.size = q22 at *
                  have z1 := zeroPre
                  generalize hz : (tab 64 fun _ => bv 0#8) = zq at *
                  have HZQ := Lib.hid hz
                  clear hz
                  have HL22 := Lib.hid (loadHb (HX1.out.gm.bx _ (List.mem_cons_self ..)).1)
                  have hG := HX1.out.get xh (by have := HE.out.2.2.1; have := HMA.out.1; have := HJN.out; show Af.length < _; omega)
                  have e1 : (look M xh).getD zp = pj := by rw [HP.out.2.1]; rfl
                  have e2 : missV (Wt.has M xh) = .nilIface := by rw [(has_iff M xh).2 ⟨pj, HP.out.2.1⟩]; rfl
                  simp only [e1, e2] at hG
                  unfold dv pv at hG
                  have HG := Lib.hid hG
                  clear hG e1 e2
                  go_upto_region 40 with (first
                    | ((with_reducible refine wpList_loadE (P := Tryd.prog) (w := y1) (ty := 39) (x := .tmp 22) (p := .pointer (some ⟨q22, 0, none⟩)) (v := .agg (tab 32 fun i => bv (xh i))) ?_ ?_ ?_ HL22.out ?_); (· exact rfl); (· exact rfl); (· exact rfl))
                    | (go_at_call 19; (with_reducible refine HG.out.mono ?_); rintro e y2 ⟨he, T2b, h2⟩; obtain rfl : e = _ := he; have HX2 := Lib.hid h2; clear HG h2)
                    | ((with_reducible refine wpList_store_row (P := Tryd.prog) (w := y2.alloc (.cells zq 37)) ?_ 37 (.tmp 23) (.tmp 150) ?_ y2.heap.size (tab 64 fun i => bv (pj i)) ?_ ?_ 37 zq (heap_alloc_last y2 _) (infPre _) ?_ (one_bv _ _) ?_); (· exact rfl); (· exact rfl); (· exact rfl); (· exact rfl); (· rw [← HZQ.out, tab_size, tab_size]); rw [World.setRow_alloc_new]; simp only [Act.put]))
                  clear HX1 HL22
                  have HX3 := Lib.hid (HX2.out.alloc 37 64 (fun i => bv (pj i)))
                  clear HX2
                  generalize y2.alloc (.cells (tab 64 fun i => bv (pj i)) 37) = y3 at *
                  generalize y2.heap.size = q23 at *
                  have HL23 := Lib.hid (loadPb (HX3.out.gm.bx _ (List.mem_cons_self ..)).1)
                  have hA := HX3.out.add pj
                  unfold dv pv at hA
                  have HA := Lib.hid hA
                  clear hA
                  go_upto_region 43 with (first
                    | ((with_reducible refine wpList_loadE (P := Tryd.prog) (w := y3) (ty := 37) (x := .tmp 23) (p := .pointer (some ⟨q23, 0, none⟩)) (v := .agg (tab 64 fun i => bv (pj i))) ?_ ?_ ?_ HL23.out ?_); (· exact rfl); (· exact rfl); (· exact rfl))
                    | (go_at_call 17; (with_reducible refine HA.out.mono ?_); rintro e y4 ⟨he, h4⟩; obtain rfl : e = _ := he; have HX4 := Lib.hid h4; clear HA h4)
                    | ((with_reducible refine wpList_store_row (P := Tryd.prog) (w := y4.alloc (.cells zh 39)) ?_ 39 (.tmp 25) (.tmp 158) ?_ y4.heap.size (tab 32 fun i => bv (hs pj i)) ?_ ?_ 39 zh (heap_alloc_last y4 _) (infH _) ?_ (one_bv _ _) ?_); (· exact rfl); (· exact rfl); (· exact rfl); (· exact rfl); (· rw [← HZH.out, tab_size, tab_size]); rw [World.setRow_alloc_new]; simp only [Act.put]))
                  clear HX3 HL23
                  have HX5 := Lib.hid (HX4.out.alloc 39 32 (fun i => bv (hs pj i)))
                  clear HX4
                  generalize y4.alloc (.cells (tab 32 fun i => bv (hs pj i)) 39) = y5 at *
                  generalize y4.heap.size = q25 at *
                  have hw1 : wrap64 ((j : Int) + 1) = ((j + 1 : Nat) : Int) := by have := HJN.out; have := HMA.out.1; unfold wrap64; omega
                  have HW1 := Lib.hid hw1
                  go_wp2_with (fail)
                  go_roundw
                  case rel =>
                    have hm := Ext.more HE.out.1 HP.out.2.1 HP.out.2.2 rfl
                    have ha := askL_len Af xh
                    have hl := putM_len Ml (hs pj) pj
                    have h3 := HE.out.2.2
                    exact ⟨j + 1, HJN.out, by go_num, Lib.hid ⟨T2b, _, _, HX5.out.sub (bx' := [⟨q8, 39, 32, fun i => bv (rt i)⟩]) (fun b hb => List.mem_cons_of_mem _ (List.mem_cons_of_mem _ (List.mem_cons_of_mem _ hb))), hm.1, fun r hr => by
                      by_cases e : r = j
                      · rw [e, HP.out.1]; exact hm.2.1
                      · exact hm.2.2.has (HE.out.2.1 r (by omega)), by omega, by omega⟩⟩
                  case measure => first | exact meas_lp HJN.out HW1.out | exact meas_nw HJN.out
              · as_aux_lemma =>
                  have e : nA = j := by omega
                  subst e
                  clear hj hjm
                  obtain ⟨va, vc, hV, _⟩ := row_hq HX.out.row
                  subst hV
                  have HW4 : Hid (∀ r, r < m → (∀ l, l < D → Wt.has Ml (hhw Ml D (Ix r) rt l) = true) ∧ Wt.key (hhw Ml D (Ix r) rt D) = Wt.key (g r)) := Lib.hid (fun r hr => by
                    have h0 : ∀ l, l < D → Wt.has Ml (hhw M D (Ix r) rt l) = true := fun l hl => by
                      obtain ⟨x, hx, e⟩ := HWW.out r l hr hl
                      rw [← has_key e]; exact HE.out.2.1 x hx
                    have h1 := way_ext HE.out.1 D (Ix r) rt D h0
                    exact ⟨h1.1, h1.2.trans (HWG.out r hr).symm⟩)
                  have HTK := Lib.hid HX.out.twoK
                  have HE4 : Hid (Ew w s3 t k3 f3 T3 Tt Ml [] N B (.slice none 0 0) 0 (fun _ _ => 0#8) (TwoB (.slice va m vc) (.slice ua nA uc)) (TwoR w.heap.size (.slice va m vc) m g (.slice ua nA uc) nA L) [⟨q8, 39, 32, fun i => bv (rt i)⟩] wr) := Lib.hid HX.out.two
                  have HEL := Lib.hid (And.intro HE.out.1 HE.out.2.1)
                  clear HX HE
                  go_upto_region 46 with (fail)
                  go_wp2_with (fail)
                  go_loopw [165] (fun i z => ∃ j : Nat, j ≤ m ∧ i = .int .i64 j ∧ Hid (∃ T3 A4, Ew w s3 t k3 f3 T3 Tt Ml A4 N B (.slice none 0 0) 0 (fun _ _ => 0#8) (TwoB (.slice va m vc) (.slice ua nA uc)) (TwoR w.heap.size (.slice va m vc) m g (.slice ua nA uc) nA L) [⟨q8, 39, 32, fun i => bv (rt i)⟩] z ∧ A4.length ≤ 17 * j)) (fun i _ => m - (intOf i).toNat)
                  case atStart => exact ⟨0, Nat.zero_le _, rfl, Lib.hid ⟨T3, [], HE4.out, Nat.zero_le _⟩⟩
                  case round =>
                    obtain ⟨j, hj, rfl, hp⟩ := hrel
                    obtain ⟨T3, A4, hE, hA⟩ := hp.out
                    have HE := Lib.hid hE
                    have HA4 := Lib.hid hA
                    clear hE hA hp HE4
                    by_cases hjm : j < m
                    · have t1 : decide (j < m) = true := by simp; omega
                      have HJM : Hid (j < m ∧ j < len) := Lib.hid ⟨hjm, by have := HM.out; omega⟩
                      clear hj hjm
                      go_upto_region 49 with (fail)
                      obtain ⟨c, off, hAP, hcell⟩ := HAR.out j HJM.out.2
                      subst hAP
                      obtain ⟨o, ho⟩ : ∃ o, off + j * 33 = o := ⟨_, rfl⟩
                      rw [ho] at hcell
                      have HJO : Hid (j < len ∧ off + j * 33 = o) := Lib.hid ⟨HJM.out.2, ho⟩
                      have HJX : Hid ((IntKind.u64.wrap (IntKind.i64.wrap (ar j + 1))).tmod (n2 : Int) = (Ix j : Int) ∧ ¬ n2 = 0 ∧ IntKind.i64.wrap (Ix j : Int) = (Ix j : Int) ∧ IntKind.u64.wrap (Ix j : Int) = (Ix j : Int)) := Lib.hid ⟨(HIX.out j).1, by have := HN2.out; omega, IntWalk.i64_in _ (by have := (HIX.out j).2; have := HN2.out; omega), IntWalk.u64_in _ (by have := (HIX.out j).2; have := HN2.out; omega)⟩
                      have HI : Hid (Ix j < 2 ^ D) := Lib.hid (by rw [HN2.out.1]; exact (HIX.out j).2)
                      have HCL := Lib.hid hcell
                      clear ho hcell
                      have HEd := Lib.hid (HE.out.next (Below.refl _ _).drew)
                      clear t1
                      refine wp_region_og (fun z : World => IsTab z q8 39 32 (fun i => bv (rt i)) ∧ z.cell? ⟨c, o, none⟩ = some (.int .i64 (ar j))) (.take 0 (.take 1 (.take 2 (.take 3 (.take 4 (.take 5 (.take 6 (.take 7 (.take 8 (.take 9 (.take 10 (.take 11 (.take 12 (.take 13 (.take 14 (.two 15 (.take 16 (.take 17 (.take 18 (.one 19 (.one 20 (.one 21 .done)))))) 19 (.one 15 (.take 16 (.take 17 (.take 18 (.one 20 (.one 21 .done)))))))))))))))))))))) (by kernel_rfl) (by as_aux_lemma => kernel_rfl) ⟨((HEd.out.gm.bx _ (List.mem_cons_self ..)).1), (HEd.out.gm.below.cell (p := ⟨c, o, none⟩) (inHeap HCL.out)).trans HCL.out⟩ ?_
                      generalize wr.drew = x1 at *
                      clear HE
                      refine og_tk (some 169) (.pointer (some ⟨s3, 0, none⟩)) rfl rfl (by go_simp) (fun _ _ => by simp [execOp, go_sem]) ?_
                      simp only [Act.put, pS]
                      refine og_tk (some 170) (.int .i64 D) rfl rfl (by go_simp) (fun _ _ => by simp [execOp, go_sem]) ?_
                      simp only [Act.put, pS]
                      refine og_ld (some 171) 39 (.tmp 8) (.pointer (some ⟨q8, 0, none⟩)) (.agg (tab 32 fun i => bv (rt i))) rfl rfl (by go_simp) rfl rfl (fun y hy => loadHb hy.1) ?_
                      simp only [Act.put, pS]
                      refine og_tk (some 172) (.slice (some ⟨c, off, none⟩) len cap) rfl rfl (by go_simp) (fun _ _ => by simp [execOp, go_sem]) ?_
                      simp only [Act.put, pS]
                      refine og_tk (some 173) (.int .i64 j) rfl rfl (by go_simp) (fun _ _ => by simp [execOp, go_sem]) ?_
                      simp only [Act.put, pS]
                      refine og_tk (some 174) (.pointer (some ⟨c, o, none⟩)) rfl rfl (by go_simp) (fun y hy => by have h1 := HJO.out.1; have h2 := HJO.out.2; simp [execOp, go_sem, h1, h2, add_at, Result.andThen, Tryd.underlying64]) ?_
                      simp only [Act.put, pS]
                      refine og_tk (some 175) (.pointer (some ⟨c, o, none⟩)) rfl rfl (by go_simp) (fun _ _ => by simp [execOp, go_sem]) ?_
                      simp only [Act.put, pS]
                      refine og_ld (some 176) 3 (.tmp 175) (.pointer (some ⟨c, o, none⟩)) (.int .i64 (ar j)) rfl rfl (by go_simp) rfl rfl (fun y hy => by have h := hy.2; simp [Instr.loadAt, go_sem, h, Tryd.underlying3]) ?_
                      simp only [Act.put, pS]
                      refine og_tk (some 177) (.int .i64 (IntKind.i64.wrap (ar j + 1))) rfl rfl (by go_simp) (fun _ _ => by simp [execOp, go_sem]) ?_
                      simp only [Act.put, pS]
                      refine og_tk (some 178) (.int .u64 (IntKind.u64.wrap (IntKind.i64.wrap (ar j + 1)))) rfl rfl (by go_simp) (fun _ _ => by simp [execOp, go_sem]) ?_
                      simp only [Act.put, pS]
                      refine og_tk (some 179) (.int .i64 D) rfl rfl (by go_simp) (fun _ _ => by simp [execOp, go_sem]) ?_
                      simp only [Act.put, pS]
                      refine og_tk (some 180) (.int .u64 (IntKind.u64.wrap (D : Int))) rfl rfl (by go_simp) (fun _ _ => by simp [execOp, go_sem]) ?_
                      simp only [Act.put, pS]
                      refine og_tk (some 181) (.int .u64 n2) rfl rfl (by go_simp) (fun y hy => by have h := HSH.out; simp [execOp, go_sem, h, Result.andThen]) ?_
                      simp only [Act.put, pS]
                      refine og_tk (some 182) (.int .u64 (Ix j)) rfl rfl (by go_simp) (fun _ _ => by have h := HJX.out; simp [execOp, go_sem, h, Result.andThen]) ?_
                      simp only [Act.put, pS]
                      refine og_tk (some 183) (.int .i64 (Ix j)) rfl rfl (by go_simp) (fun _ _ => by have h := HJX.out; simp [execOp, go_sem, h, Result.andThen]) ?_
                      simp only [Act.put, pS]
                      refine og_two ?_ ?_
                      · as_aux_lemma =>
                          have hA := HEd.out.gm.readK (k := D) (by have := HA4.out; have := HJM.out; have := HM.out; omega) (Nat.le_trans HD.out.1 (by decide)) HI.out (Nat.le_refl _) (HW4.out j HJM.out.1).1 (.inl rfl)
                          unfold dv at hA
                          have HA := Lib.hid hA
                          clear hA
                          refine og_of rfl (by go_simp) fun K' hK' => ?_
                          go_simp
                          refine HA.out.mono ?_
                          rintro e x2 ⟨xv, E, he, hhit, hmiss, Ts1, g1, g2, g3⟩
                          obtain rfl : e = _ := he
                          obtain ⟨hx, hE⟩ := hhit rfl
                          subst hE
                          rw [if_neg (Nat.lt_irrefl _)] at g1
                          have HXV : Hid (Wt.key (g j) = Wt.key xv) := Lib.hid (by rw [hx]; exact (HW4.out j HJM.out.1).2.symm)
                          clear hx
                          have HE2 := Lib.hid (HEd.out.step g1 g2 g3)
                          refine hK' _ _ ⟨((HE2.out.gm.bx _ (List.mem_cons_self ..)).1), (HE2.out.gm.below.cell (p := ⟨c, o, none⟩) (inHeap HCL.out)).trans HCL.out⟩ ?_
                          clear hK' K' HA hhit hmiss g1 g2 g3
                          try simp only [Act.put, pS]
                          refine og_tk (some 168) (.tuple #[.agg (tab 32 fun i => bv (xv i)), .nilIface]) rfl rfl (by go_simp) (fun _ _ => by simp [execOp, go_sem]) ?_
                          simp only [Act.put, pS]
                          refine og_tk (some 185) (.agg (tab 32 fun i => bv (xv i))) rfl rfl (by go_simp) (fun _ _ => by simp [execOp, go_sem]) ?_
                          simp only [Act.put, pS]
                          refine og_tk (some 186) (.nilIface) rfl rfl (by go_simp) (fun _ _ => by simp [execOp, go_sem]) ?_
                          simp only [Act.put, pS]
                          refine og_f rfl (by go_simp) fun K' hK' => ?_
                          unfold Oper.wp
                          rw [exec_allocH _ _ _ rfl, Oper.upon_value]
                          have HE3 := Lib.hid (HE2.out.alloc 39 32 (fun _ => bv 0#8))
                          have HNQ : Hid (q8 ≠ x2.heap.size) := Lib.hid (by have := HE2.out.gm.lt (List.mem_cons_self ..); simp only at this; omega)
                          refine hK' _ _ ⟨((HE3.out.gm.bx _ (List.mem_cons_of_mem _ (List.mem_cons_self ..))).1), (HE3.out.gm.below.cell (p := ⟨c, o, none⟩) (inHeap HCL.out)).trans HCL.out⟩ ?_
                          clear hK' K'
                          try simp only [Act.put, pS]
                          generalize x2.alloc (.cells (tab 32 fun _ => bv 0#8) 39) = x3 at *
                          generalize x2.heap.size = q17 at *
                          refine og_f rfl (by go_simp) fun K' hK' => ?_
                          refine wp_store_row 39 (.tmp 28) (.tmp 185) rfl q17 (tab 32 fun i => bv (xv i)) rfl rfl 39 (tab 32 fun _ => bv 0#8) ((HE3.out.gm.bx _ (List.mem_cons_self ..)).1) (infH _) (by simp only [tab_size]) (one_bv _ _) ?_
                          have HE4 := Lib.hid (HE3.out.put (f := fun i => bv (xv i)) (fun c hc => by
                            have h1 := HNQ.out
                            simp only [List.mem_cons, List.not_mem_nil, or_false] at hc
                            subst hc
                            exact h1))
                          refine hK' _ _ ⟨((HE4.out.gm.bx _ (List.mem_cons_of_mem _ (List.mem_cons_self ..))).1), (HE4.out.gm.below.cell (p := ⟨c, o, none⟩) (inHeap HCL.out)).trans HCL.out⟩ ?_
                          clear hK' K'
                          try simp only [Act.put, pS]
                          generalize x3.setRow q17 (tab 32 fun i => bv (xv i)) = x4 at *
                          refine og_f rfl (by go_simp) fun K' hK' => ?_
                          go_simp
                          refine hK' _ _ ⟨((HE4.out.gm.bx _ (List.mem_cons_of_mem _ (List.mem_cons_self ..))).1), (HE4.out.gm.below.cell (p := ⟨c, o, none⟩) (inHeap HCL.out)).trans HCL.out⟩ ?_
                          clear hK' K'
                          try simp only [Act.put, pS]
                          refine og_done (NoPanic.normal ?_)
                          go_upto_region 50 with (fail)
                          have HE5 := Lib.hid (HE4.out.next (Below.refl _ _).drew)
                          clear HE4
                          refine wp_region_og (fun z : World => x4.drew = z) (.take 0 (.take 1 (.take 2 (.take 3 (.take 4 (.take 5 (.take 6 (.take 7 (.take 8 (.take 9 .done)))))))))) (by kernel_rfl) (by as_aux_lemma => kernel_rfl) rfl ?_
                          generalize x4.drew = x5 at *
                          have HL28 := Lib.hid (loadHb ((HE5.out.gm.bx _ (List.mem_cons_self ..)).1))
                          have hld : ∀ k, k < m → ∃ gV, va = some ⟨gV, 0, none⟩ ∧ ∀ y, Below x5.heap.size x5 y → (Instr.loadAt 39 (.pointer (some ⟨gV, 32 * k, none⟩))).run Tryd.prog y = .ok (.agg (tab 32 fun i => bv (g k i))) y := by
                            obtain ⟨a', c', hU, h⟩ := row_hq HE5.out.sd.1
                            cases hU
                            exact h
                          obtain ⟨gV, hgV, hl⟩ := hld j HJM.out.1
                          subst hgV
                          have hl0 := hl x5 (Below.refl _ _)
                          rw [Nat.mul_comm 32 j, show (Value.agg (tab 32 fun i => bv (g j i))) = .agg (tab 32 fun i => bv (xv i)) from dv_key.2 HXV.out] at hl0
                          obtain ⟨o2, ho2⟩ : ∃ o2, j * 32 = o2 := ⟨_, rfl⟩
                          rw [ho2] at hl0
                          have HO2 : Hid (j < m ∧ j * 32 = o2) := Lib.hid ⟨HJM.out.1, ho2⟩
                          have HLV := Lib.hid hl0
                          clear hld hl hl0 ho2
                          refine og_tk (some 187) (.nilIface) rfl rfl (by go_simp) (fun _ _ => by simp [execOp, go_sem]) ?_
                          simp only [Act.put, pS]
                          refine og_tk (some 188) (.bool false) rfl rfl (by go_simp) (fun _ _ => by simp [execOp, go_sem]) ?_
                          simp only [Act.put, pS]
                          refine og_tk (some 189) (.bool false) rfl rfl (by go_simp) (fun _ _ => by simp [execOp, go_sem]) ?_
                          simp only [Act.put, pS]
                          refine og_ld (some 190) 39 (.tmp 28) (.pointer (some ⟨q17, 0, none⟩)) (.agg (tab 32 fun i => bv (xv i))) rfl rfl (by go_simp) rfl rfl (fun y hy => hy ▸ HL28.out) ?_
                          simp only [Act.put, pS]
                          refine og_tk (some 191) (.slice (some ⟨gV, 0, none⟩) m vc) rfl rfl (by go_simp) (fun _ _ => by simp [execOp, go_sem]) ?_
                          simp only [Act.put, pS]
                          refine og_tk (some 192) (.int .i64 j) rfl rfl (by go_simp) (fun _ _ => by simp [execOp, go_sem]) ?_
                          simp only [Act.put, pS]
                          refine og_tk (some 193) (.pointer (some ⟨gV, o2, none⟩)) rfl rfl (by go_simp) (fun y hy => by have h1 := HO2.out.1; have h2 := HO2.out.2; simp [execOp, go_sem, h1, h2, Result.andThen, Tryd.underlying56]) ?_
                          simp only [Act.put, pS]
                          refine og_ld (some 194) 39 (.tmp 193) (.pointer (some ⟨gV, o2, none⟩)) (.agg (tab 32 fun i => bv (xv i))) rfl rfl (by go_simp) rfl rfl (fun y hy => hy ▸ HLV.out) ?_
                          simp only [Act.put, pS]
                          refine og_tk (some 195) (.bool false) rfl rfl (by go_simp) (fun y hy => exec_neqX (.tmp 190) (.tmp 194) 39 xv rfl rfl rfl) ?_
                          simp only [Act.put, pS]
                          refine og_tk (some 196) (.bool false) rfl rfl (by go_simp) (fun _ _ => by simp [execOp, go_sem]) ?_
                          simp only [Act.put, pS]
                          refine og_done (NoPanic.normal ?_)
                          have hw1 : wrap64 ((j : Int) + 1) = ((j + 1 : Nat) : Int) := by have := HJM.out; have := HM.out; unfold wrap64; omega
                          have HW1 := Lib.hid hw1
                          clear HL28 HLV
                          go_wp2_with (fail)
                          go_roundw
                          case rel =>
                            have ha := askN_len A4 (hhw Ml D (Ix j) rt) D
                            have hd := HD.out.1
                            have h4 := HA4.out
                            exact ⟨j + 1, HJM.out.1, by go_num, Lib.hid ⟨Ts1, _, HE5.out.sub (bx' := [⟨q8, 39, 32, fun i => bv (rt i)⟩]) (fun b hb => List.mem_cons_of_mem _ hb), by omega⟩⟩
                          case measure => first | exact meas_lp HJM.out.1 HW1.out | exact meas_nw HJM.out.1
                      · as_aux_lemma =>
                          refine og_of rfl (by go_simp) fun K' hK' => ?_
                          unfold Oper.wp
                          rw [exec_allocH _ _ _ rfl, Oper.upon_value]
                          have HE2 := Lib.hid (HEd.out.alloc 39 32 (fun _ => bv 0#8))
                          have HNQ : Hid (q8 ≠ x1.heap.size) := Lib.hid (by have := HEd.out.gm.lt (List.mem_cons_self ..); simp only at this; omega)
                          refine hK' _ _ ⟨((HE2.out.gm.bx _ (List.mem_cons_of_mem _ (List.mem_cons_self ..))).1), (HE2.out.gm.below.cell (p := ⟨c, o, none⟩) (inHeap HCL.out)).trans HCL.out⟩ ?_
                          clear hK' K'
                          try simp only [Act.put, pS]
                          generalize x1.alloc (.cells (tab 32 fun _ => bv 0#8) 39) = x2 at *
                          generalize x1.heap.size = q17 at *
                          have hA := HE2.out.gm.readK (k := D) (by have := HA4.out; have := HJM.out; have := HM.out; omega) (Nat.le_trans HD.out.1 (by decide)) HI.out (Nat.le_refl _) (HW4.out j HJM.out.1).1 (.inl rfl)
                          unfold dv at hA
                          have HA := Lib.hid hA
                          clear hA
                          refine og_f rfl (by go_simp) fun K' hK' => ?_
                          go_simp
                          refine HA.out.mono ?_
                          rintro e x3 ⟨xv, E, he, hhit, hmiss, Ts1, g1, g2, g3⟩
                          obtain rfl : e = _ := he
                          obtain ⟨hx, hE⟩ := hhit rfl
                          subst hE
                          rw [if_neg (Nat.lt_irrefl _)] at g1
                          have HXV : Hid (Wt.key (g j) = Wt.key xv) := Lib.hid (by rw [hx]; exact (HW4.out j HJM.out.1).2.symm)
                          clear hx
                          have HE3 := Lib.hid (HE2.out.step g1 g2 g3)
                          refine hK' _ _ ⟨((HE3.out.gm.bx _ (List.mem_cons_of_mem _ (List.mem_cons_self ..))).1), (HE3.out.gm.below.cell (p := ⟨c, o, none⟩) (inHeap HCL.out)).trans HCL.out⟩ ?_
                          clear hK' K' HA hhit hmiss g1 g2 g3
                          try simp only [Act.put, pS]
                          refine og_tk (some 168) (.tuple #[.agg (tab 32 fun i => bv (xv i)), .nilIface]) rfl rfl (by go_simp) (fun _ _ => by simp [execOp, go_sem]) ?_
                          simp only [Act.put, pS]
                          refine og_tk (some 185) (.agg (tab 32 fun i => bv (xv i))) rfl rfl (by go_simp) (fun _ _ => by simp [execOp, go_sem]) ?_
                          simp only [Act.put, pS]
                          refine og_tk (some 186) (.nilIface) rfl rfl (by go_simp) (fun _ _ => by simp [execOp, go_sem]) ?_
                          simp only [Act.put, pS]
                          refine og_f rfl (by go_simp) fun K' hK' => ?_
                          refine wp_store_row 39 (.tmp 28) (.tmp 185) rfl q17 (tab 32 fun i => bv (xv i)) rfl rfl 39 (tab 32 fun _ => bv 0#8) ((HE3.out.gm.bx _ (List.mem_cons_self ..)).1) (infH _) (by simp only [tab_size]) (one_bv _ _) ?_
                          have HE4 := Lib.hid (HE3.out.put (f := fun i => bv (xv i)) (fun c hc => by
                            have h1 := HNQ.out
                            simp only [List.mem_cons, List.not_mem_nil, or_false] at hc
                            subst hc
                            exact h1))
                          refine hK' _ _ ⟨((HE4.out.gm.bx _ (List.mem_cons_of_mem _ (List.mem_cons_self ..))).1), (HE4.out.gm.below.cell (p := ⟨c, o, none⟩) (inHeap HCL.out)).trans HCL.out⟩ ?_
                          clear hK' K'
                          try simp only [Act.put, pS]
                          generalize x3.setRow q17 (tab 32 fun i => bv (xv i)) = x4 at *
                          refine og_f rfl (by go_simp) fun K' hK' => ?_
                          go_simp
                          refine hK' _ _ ⟨((HE4.out.gm.bx _ (List.mem_cons_of_mem _ (List.mem_cons_self ..))).1), (HE4.out.gm.below.cell (p := ⟨c, o, none⟩) (inHeap HCL.out)).trans HCL.out⟩ ?_
                          clear hK' K'
                          try simp only [Act.put, pS]
                          refine og_done (NoPanic.normal ?_)
                          go_upto_region 50 with (fail)
                          have HE5 := Lib.hid (HE4.out.next (Below.refl _ _).drew)
                          clear HE4
                          refine wp_region_og (fun z : World => x4.drew = z) (.take 0 (.take 1 (.take 2 (.take 3 (.take 4 (.take 5 (.take 6 (.take 7 (.take 8 (.take 9 .done)))))))))) (by kernel_rfl) (by as_aux_lemma => kernel_rfl) rfl ?_
                          generalize x4.drew = x5 at *
                          have HL28 := Lib.hid (loadHb ((HE5.out.gm.bx _ (List.mem_cons_self ..)).1))
                          have hld : ∀ k, k < m → ∃ gV, va = some ⟨gV, 0, none⟩ ∧ ∀ y, Below x5.heap.size x5 y → (Instr.loadAt 39 (.pointer (some ⟨gV, 32 * k, none⟩))).run Tryd.prog y = .ok (.agg (tab 32 fun i => bv (g k i))) y := by
                            obtain ⟨a', c', hU, h⟩ := row_hq HE5.out.sd.1
                            cases hU
                            exact h
                          obtain ⟨gV, hgV, hl⟩ := hld j HJM.out.1
                          subst hgV
                          have hl0 := hl x5 (Below.refl _ _)
                          rw [Nat.mul_comm 32 j, show (Value.agg (tab 32 fun i => bv (g j i))) = .agg (tab 32 fun i => bv (xv i)) from dv_key.2 HXV.out] at hl0
                          obtain ⟨o2, ho2⟩ : ∃ o2, j * 32 = o2 := ⟨_, rfl⟩
                          rw [ho2] at hl0
                          have HO2 : Hid (j < m ∧ j * 32 = o2) := Lib.hid ⟨HJM.out.1, ho2⟩
                          have HLV := Lib.hid hl0
                          clear hld hl hl0 ho2
                          refine og_tk (some 187) (.nilIface) rfl rfl (by go_simp) (fun _ _ => by simp [execOp, go_sem]) ?_
                          simp only [Act.put, pS]
                          refine og_tk (some 188) (.bool false) rfl rfl (by go_simp) (fun _ _ => by simp [execOp, go_sem]) ?_
                          simp only [Act.put, pS]
                          refine og_tk (some 189) (.bool false) rfl rfl (by go_simp) (fun _ _ => by simp [execOp, go_sem]) ?_
                          simp only [Act.put, pS]
                          refine og_ld (some 190) 39 (.tmp 28) (.pointer (some ⟨q17, 0, none⟩)) (.agg (tab 32 fun i => bv (xv i))) rfl rfl (by go_simp) rfl rfl (fun y hy => hy ▸ HL28.out) ?_
                          simp only [Act.put, pS]
                          refine og_tk (some 191) (.slice (some ⟨gV, 0, none⟩) m vc) rfl rfl (by go_simp) (fun _ _ => by simp [execOp, go_sem]) ?_
                          simp only [Act.put, pS]
                          refine og_tk (some 192) (.int .i64 j) rfl rfl (by go_simp) (fun _ _ => by simp [execOp, go_sem]) ?_
                          simp only [Act.put, pS]
                          refine og_tk (some 193) (.pointer (some ⟨gV, o2, none⟩)) rfl rfl (by go_simp) (fun y hy => by have h1 := HO2.out.1; have h2 := HO2.out.2; simp [execOp, go_sem, h1, h2, Result.andThen, Tryd.underlying56]) ?_
                          simp only [Act.put, pS]
                          refine og_ld (some 194) 39 (.tmp 193) (.pointer (some ⟨gV, o2, none⟩)) (.agg (tab 32 fun i => bv (xv i))) rfl rfl (by go_simp) rfl rfl (fun y hy => hy ▸ HLV.out) ?_
                          simp only [Act.put, pS]
                          refine og_tk (some 195) (.bool false) rfl rfl (by go_simp) (fun y hy => exec_neqX (.tmp 190) (.tmp 194) 39 xv rfl rfl rfl) ?_
                          simp only [Act.put, pS]
                          refine og_tk (some 196) (.bool false) rfl rfl (by go_simp) (fun _ _ => by simp [execOp, go_sem]) ?_
                          simp only [Act.put, pS]
                          refine og_done (NoPanic.normal ?_)
                          have hw1 : wrap64 ((j : Int) + 1) = ((j + 1 : Nat) : Int) := by have := HJM.out; have := HM.out; unfold wrap64; omega
                          have HW1 := Lib.hid hw1
                          clear HL28 HLV
                          go_wp2_with (fail)
                          go_roundw
                          case rel =>
                            have ha := askN_len A4 (hhw Ml D (Ix j) rt) D
                            have hd := HD.out.1
                            have h4 := HA4.out
                            exact ⟨j + 1, HJM.out.1, by go_num, Lib.hid ⟨Ts1, _, HE5.out.sub (bx' := [⟨q8, 39, 32, fun i => bv (rt i)⟩]) (fun b hb => List.mem_cons_of_mem _ hb), by omega⟩⟩
                          case measure => first | exact meas_lp HJM.out.1 HW1.out | exact meas_nw HJM.out.1
                    · as_aux_lemma =>
                        have e : m = j := by omega
                        subst e
                        clear hj hjm
                        by_cases h0 : nA = 0
                        · have t0 : ((nA : Int) == 0) = true := by simp [h0]
                          go_wp2_with (fail)
                          go_ret
                          exact ⟨rfl, HE.out.gm.below⟩
                        · have t0 : ((nA : Int) == 0) = false := by simp [h0]
                          go_upto_region 55 with (fail)
                          clear t0
                          obtain ⟨I, hat, hIb⟩ := u64_modn drop nA (by omega)
                          have hsh : IntKind.u64.wrap (nA : Int) = (nA : Int) := IntWalk.u64_in _ (by have := HMA.out.1; omega)
                          have hwJ : IntKind.i64.wrap (I : Int) = (I : Int) := IntWalk.i64_in _ (by have := HMA.out.1; omega)
                          have hld : ∀ k, k < nA → ∃ gU, ua = some ⟨gU, 0, none⟩ ∧ ∀ y, Below wr.heap.size wr y → (Instr.loadAt 39 (.pointer (some ⟨gU, 32 * k, none⟩))).run Tryd.prog y = .ok (.agg (tab 32 fun i => bv (L k i))) y := by
                            obtain ⟨a', c', hU, h⟩ := row_hq HE.out.sd.2
                            cases hU
                            exact h
                          obtain ⟨gU, hgU, hl⟩ := hld I hIb
                          subst hgU
                          have hl0 := hl wr (Below.refl _ _)
                          rw [Nat.mul_comm 32 I] at hl0
                          have hhx := HEL.out.2 I hIb
                          obtain ⟨r0, l0, hr0, hl00, hk0⟩ := HWO.out I hIb
                          obtain ⟨xd, hxd⟩ : ∃ x, L I = x := ⟨_, rfl⟩
                          rw [hxd] at hl0 hhx hk0
                          have HRL := Lib.hid (And.intro hr0 (And.intro hl00 hk0))
                          have HLD := Lib.hid hl0
                          have hD := HE.out.drop HTK.out xd
                          rw [hhx, show missV true = .nilIface from rfl] at hD
                          have HW5 : Hid (∀ r, r < m → ∃ k, k ≤ D ∧ (∀ l, l < k → Wt.has (dropM Ml xd) (hhw (dropM Ml xd) D (Ix r) rt l) = true) ∧ (k = D ∨ Wt.has (dropM Ml xd) (hhw (dropM Ml xd) D (Ix r) rt k) = false) ∧ ((∃ l, l < D ∧ Wt.key (hhw M D (Ix r) rt l) = Wt.key xd) → k < D) ∧ (k = D → Wt.key (hhw (dropM Ml xd) D (Ix r) rt D) = Wt.key (g r))) := Lib.hid (fun r hr => by
                            have h0 : ∀ l, l < D → Wt.has Ml (hhw M D (Ix r) rt l) = true := fun l hl => by
                              obtain ⟨x, hx, e⟩ := HWW.out r l hr hl
                              rw [← has_key e]; exact HEL.out.2 x hx
                            obtain ⟨k, h1, h2, h3, h4, h5⟩ := drop_way HEL.out.1 D (Ix r) rt xd h0
                            exact ⟨k, h1, h2, h3, h4.2, fun e => (h5 e).trans (HWG.out r hr).symm⟩)
                          obtain ⟨Md, hMd⟩ : ∃ x, dropM Ml xd = x := ⟨_, rfl⟩
                          rw [hMd] at hD HW5
                          unfold dv at hD
                          have HDr := Lib.hid hD
                          clear hld hl hl0 hhx hr0 hl00 hk0 hxd hD hMd
                          go_upto_region 58 with (first
                            | ((with_reducible refine wpList_loadE (P := Tryd.prog) (w := wr) (ty := 39) (x := .tmp 210) (p := .pointer (some ⟨gU, I * 32, none⟩)) (v := .agg (tab 32 fun i => bv (xd i))) ?_ ?_ ?_ HLD.out ?_); (· exact rfl); (· exact rfl); (· exact rfl))
                            | (go_at_call 22; (with_reducible refine HDr.out.mono ?_); rintro e y7 ⟨he, h1⟩; obtain rfl : e = _ := he; have HE5 := Lib.hid h1; clear HDr h1))
                          clear hat hsh hwJ h0 hIb HE HLD HTK
                          go_wp2_with (fail)
                          go_loopw [30, 216] (fun b i z => ∃ (j : Nat) (bb : Bool), j ≤ m ∧ b = .bool bb ∧ i = .int .i64 j ∧ Hid (∃ T3 A5, Ew w s3 t k3 f3 T3 Tt Md A5 N B (.slice none 0 0) 0 (fun _ _ => 0#8) (TwoB (.slice va m vc) (.slice (some ⟨gU, 0, none⟩) nA uc)) (TwoR w.heap.size (.slice va m vc) m g (.slice (some ⟨gU, 0, none⟩) nA uc) nA L) [⟨q8, 39, 32, fun i => bv (rt i)⟩] z ∧ A5.length ≤ 17 * m + 17 * j ∧ ∀ r l, r < j → l < D → Wt.key (hhw M D (Ix r) rt l) = Wt.key xd → bb = true)) (fun _ i _ => m - (intOf i).toNat)
                          case atStart => exact ⟨0, false, Nat.zero_le _, rfl, rfl, Lib.hid ⟨T3, A4, HE5.out, by have := HA4.out; omega, fun r l h => by omega⟩⟩
                          case round =>
                            obtain ⟨j, bb, hj, rfl, rfl, hp⟩ := hrel
                            obtain ⟨T3, A5, hE, hA, hB⟩ := hp.out
                            have HE := Lib.hid hE
                            have HA5 := Lib.hid hA
                            have HB5 := Lib.hid hB
                            clear hE hA hB hp HE5 HA4
                            by_cases hjm : j < m
                            · have t1 : decide (j < m) = true := by simp; omega
                              have HJM : Hid (j < m ∧ j < len) := Lib.hid ⟨hjm, by have := HM.out; omega⟩
                              clear hj hjm
                              go_upto_region 61 with (fail)
                              clear t1
                              obtain ⟨k, hk1, hk2, hk3, hk4, hk5⟩ := HW5.out j HJM.out.1
                              by_cases hkd : k < D
                              · have HKD := Lib.hid hkd
                                have HHK := Lib.hid hk2
                                have HEND := Lib.hid hk3
                                clear hk1 hk2 hk3 hk4 hk5 hkd
                                obtain ⟨c, off, hAP, hcell⟩ := HAR.out j HJM.out.2
                                subst hAP
                                obtain ⟨o, ho⟩ : ∃ o, off + j * 33 = o := ⟨_, rfl⟩
                                rw [ho] at hcell
                                have HJO : Hid (j < len ∧ off + j * 33 = o) := Lib.hid ⟨HJM.out.2, ho⟩
                                have HJX : Hid ((IntKind.u64.wrap (IntKind.i64.wrap (ar j + 1))).tmod (n2 : Int) = (Ix j : Int) ∧ ¬ n2 = 0 ∧ IntKind.i64.wrap (Ix j : Int) = (Ix j : Int) ∧ IntKind.u64.wrap (Ix j : Int) = (Ix j : Int)) := Lib.hid ⟨(HIX.out j).1, by have := HN2.out; omega, IntWalk.i64_in _ (by have := (HIX.out j).2; have := HN2.out; omega), IntWalk.u64_in _ (by have := (HIX.out j).2; have := HN2.out; omega)⟩
                                have HI : Hid (Ix j < 2 ^ D) := Lib.hid (by rw [HN2.out.1]; exact (HIX.out j).2)
                                have HCL := Lib.hid hcell
                                clear ho hcell
                                have HEd := Lib.hid (HE.out.next (Below.refl _ _).drew)
                                refine wp_region_og (fun z : World => IsTab z q8 39 32 (fun i => bv (rt i)) ∧ z.cell? ⟨c, o, none⟩ = some (.int .i64 (ar j))) (.take 0 (.take 1 (.take 2 (.take 3 (.take 4 (.take 5 (.take 6 (.take 7 (.take 8 (.take 9 (.take 10 (.take 11 (.take 12 (.take 13 (.take 14 (.two 15 (.take 16 (.take 17 (.take 18 (.one 19 (.one 20 (.one 21 .done)))))) 19 (.one 15 (.take 16 (.take 17 (.take 18 (.one 20 (.one 21 .done)))))))))))))))))))))) (by kernel_rfl) (by as_aux_lemma => kernel_rfl) ⟨((HEd.out.gm.bx _ (List.mem_cons_self ..)).1), (HEd.out.gm.below.cell (p := ⟨c, o, none⟩) (inHeap HCL.out)).trans HCL.out⟩ ?_
                                generalize wr.drew = x1 at *
                                clear HE
                                refine og_tk (some 220) (.pointer (some ⟨s3, 0, none⟩)) rfl rfl (by go_simp) (fun _ _ => by simp [execOp, go_sem]) ?_
                                simp only [Act.put, pS]
                                refine og_tk (some 221) (.int .i64 D) rfl rfl (by go_simp) (fun _ _ => by simp [execOp, go_sem]) ?_
                                simp only [Act.put, pS]
                                refine og_ld (some 222) 39 (.tmp 8) (.pointer (some ⟨q8, 0, none⟩)) (.agg (tab 32 fun i => bv (rt i))) rfl rfl (by go_simp) rfl rfl (fun y hy => loadHb hy.1) ?_
                                simp only [Act.put, pS]
                                refine og_tk (some 223) (.slice (some ⟨c, off, none⟩) len cap) rfl rfl (by go_simp) (fun _ _ => by simp [execOp, go_sem]) ?_
                                simp only [Act.put, pS]
                                refine og_tk (some 224) (.int .i64 j) rfl rfl (by go_simp) (fun _ _ => by simp [execOp, go_sem]) ?_
                                simp only [Act.put, pS]
                                refine og_tk (some 225) (.pointer (some ⟨c, o, none⟩)) rfl rfl (by go_simp) (fun y hy => by have h1 := HJO.out.1; have h2 := HJO.out.2; simp [execOp, go_sem, h1, h2, add_at, Result.andThen, Tryd.underlying64]) ?_
                                simp only [Act.put, pS]
                                refine og_tk (some 226) (.pointer (some ⟨c, o, none⟩)) rfl rfl (by go_simp) (fun _ _ => by simp [execOp, go_sem]) ?_
                                simp only [Act.put, pS]
                                refine og_ld (some 227) 3 (.tmp 226) (.pointer (some ⟨c, o, none⟩)) (.int .i64 (ar j)) rfl rfl (by go_simp) rfl rfl (fun y hy => by have h := hy.2; simp [Instr.loadAt, go_sem, h, Tryd.underlying3]) ?_
                                simp only [Act.put, pS]
                                refine og_tk (some 228) (.int .i64 (IntKind.i64.wrap (ar j + 1))) rfl rfl (by go_simp) (fun _ _ => by simp [execOp, go_sem]) ?_
                                simp only [Act.put, pS]
                                refine og_tk (some 229) (.int .u64 (IntKind.u64.wrap (IntKind.i64.wrap (ar j + 1)))) rfl rfl (by go_simp) (fun _ _ => by simp [execOp, go_sem]) ?_
                                simp only [Act.put, pS]
                                refine og_tk (some 230) (.int .i64 D) rfl rfl (by go_simp) (fun _ _ => by simp [execOp, go_sem]) ?_
                                simp only [Act.put, pS]
                                refine og_tk (some 231) (.int .u64 (IntKind.u64.wrap (D : Int))) rfl rfl (by go_simp) (fun _ _ => by simp [execOp, go_sem]) ?_
                                simp only [Act.put, pS]
                                refine og_tk (some 232) (.int .u64 n2) rfl rfl (by go_simp) (fun y hy => by have h := HSH.out; simp [execOp, go_sem, h, Result.andThen]) ?_
                                simp only [Act.put, pS]
                                refine og_tk (some 233) (.int .u64 (Ix j)) rfl rfl (by go_simp) (fun _ _ => by have h := HJX.out; simp [execOp, go_sem, h, Result.andThen]) ?_
                                simp only [Act.put, pS]
                                refine og_tk (some 234) (.int .i64 (Ix j)) rfl rfl (by go_simp) (fun _ _ => by have h := HJX.out; simp [execOp, go_sem, h, Result.andThen]) ?_
                                simp only [Act.put, pS]
                                refine og_two ?_ ?_
                                · as_aux_lemma =>
                                    have hA := HEd.out.gm.readK (k := k) (by have := HA5.out; have := HJM.out; have := HM.out; omega) (Nat.le_trans HD.out.1 (by decide)) HI.out (Nat.le_of_lt HKD.out) HHK.out HEND.out
                                    unfold dv at hA
                                    have HA := Lib.hid hA
                                    clear hA
                                    refine og_of rfl (by go_simp) fun K' hK' => ?_
                                    go_simp
                                    refine HA.out.mono ?_
                                    rintro e x2 ⟨xv, E, he, hhit, hmiss, Ts1, g1, g2, g3⟩
                                    obtain rfl : e = _ := he
                                    obtain ⟨qf, hE, _, c1, hq⟩ := hmiss HKD.out
                                    subst hE
                                    rw [if_pos HKD.out] at g1
                                    have HC0 := Lib.hid (And.intro c1 hq)
                                    clear c1 hq
                                    have HE2 := Lib.hid (HEd.out.step g1 g2 g3)
                                    refine hK' _ _ ⟨((HE2.out.gm.bx _ (List.mem_cons_self ..)).1), (HE2.out.gm.below.cell (p := ⟨c, o, none⟩) (inHeap HCL.out)).trans HCL.out⟩ ?_
                                    clear hK' K' HA hhit hmiss g1 g2 g3
                                    try simp only [Act.put, pS]
                                    refine og_tk (some 219) (.tuple #[.agg (tab 32 fun i => bv (xv i)), .iface 156 (.pointer (some ⟨qf, 0, none⟩))]) rfl rfl (by go_simp) (fun _ _ => by simp [execOp, go_sem]) ?_
                                    simp only [Act.put, pS]
                                    refine og_tk (some 236) (.agg (tab 32 fun i => bv (xv i))) rfl rfl (by go_simp) (fun _ _ => by simp [execOp, go_sem]) ?_
                                    simp only [Act.put, pS]
                                    refine og_tk (some 237) (.iface 156 (.pointer (some ⟨qf, 0, none⟩))) rfl rfl (by go_simp) (fun _ _ => by simp [execOp, go_sem]) ?_
                                    simp only [Act.put, pS]
                                    refine og_f rfl (by go_simp) fun K' hK' => ?_
                                    unfold Oper.wp
                                    rw [exec_allocH _ _ _ rfl, Oper.upon_value]
                                    have HE3 := Lib.hid (HE2.out.alloc 39 32 (fun _ => bv 0#8))
                                    have HNQ : Hid (q8 ≠ x2.heap.size) := Lib.hid (by have := HE2.out.gm.lt (List.mem_cons_self ..); simp only at this; omega)
                                    refine hK' _ _ ⟨((HE3.out.gm.bx _ (List.mem_cons_of_mem _ (List.mem_cons_self ..))).1), (HE3.out.gm.below.cell (p := ⟨c, o, none⟩) (inHeap HCL.out)).trans HCL.out⟩ ?_
                                    clear hK' K'
                                    try simp only [Act.put, pS]
                                    have HC := Lib.hid (((ba x2 (.cells (tab 32 fun _ => bv 0#8) 39)).cell (p := ⟨qf, 1, none⟩) (inHeap HC0.out.1)).trans HC0.out.1)
                                    have HQN : Hid (qf ≠ x2.heap.size) := Lib.hid (Nat.ne_of_lt (inHeap HC0.out.1))
                                    clear HC0
                                    generalize x2.alloc (.cells (tab 32 fun _ => bv 0#8) 39) = x3 at *
                                    generalize x2.heap.size = q17 at *
                                    refine og_f rfl (by go_simp) fun K' hK' => ?_
                                    refine wp_store_row 39 (.tmp 32) (.tmp 236) rfl q17 (tab 32 fun i => bv (xv i)) rfl rfl 39 (tab 32 fun _ => bv 0#8) ((HE3.out.gm.bx _ (List.mem_cons_self ..)).1) (infH _) (by simp only [tab_size]) (one_bv _ _) ?_
                                    have HE4 := Lib.hid (HE3.out.put (f := fun i => bv (xv i)) (fun c hc => by
                                      have h1 := HNQ.out
                                      simp only [List.mem_cons, List.not_mem_nil, or_false] at hc
                                      subst hc
                                      exact h1))
                                    refine hK' _ _ ⟨((HE4.out.gm.bx _ (List.mem_cons_of_mem _ (List.mem_cons_self ..))).1), (HE4.out.gm.below.cell (p := ⟨c, o, none⟩) (inHeap HCL.out)).trans HCL.out⟩ ?_
                                    clear hK' K'
                                    try simp only [Act.put, pS]
                                    have HC4 := Lib.hid ((cell_rowN (b := qf) (i := 1) (tab 32 fun i => bv (xv i)) HQN.out).trans HC.out)
                                    clear HC
                                    generalize x3.setRow q17 (tab 32 fun i => bv (xv i)) = x4 at *
                                    refine og_f rfl (by go_simp) fun K' hK' => ?_
                                    go_simp
                                    refine hK' _ _ ⟨((HE4.out.gm.bx _ (List.mem_cons_of_mem _ (List.mem_cons_self ..))).1), (HE4.out.gm.below.cell (p := ⟨c, o, none⟩) (inHeap HCL.out)).trans HCL.out⟩ ?_
                                    clear hK' K'
                                    try simp only [Act.put, pS]
                                    refine og_done (NoPanic.normal ?_)
                                    go_upto_region 62 with (fail)
                                    have HE5 := Lib.hid (HE4.out.next (Below.refl _ _).drew)
                                    clear HE4
                                    have HC5 := Lib.hid (((Below.refl x4.heap.size x4).drew.cell (p := ⟨qf, 1, none⟩) (inHeap HC4.out)).trans HC4.out)
                                    clear HC4
                                    refine wp_region_os (fun z : World => x4.drew = z) (.take 0 (.take 1 (.take 2 (.take 3 (.take 4 (.one 5 (.take 6 (.take 7 (.take 8 (.take 9 (.take 10 (.take 11 (.take 12 (.take 13 (.take 14 (.take 15 (.take 16 (.take 17 (.take 18 (.take 19 .done)))))))))))))))))))) (by kernel_rfl) (by as_aux_lemma => kernel_rfl) rfl ?_
                                    generalize x4.drew = x5 at *
                                    have HIS : Hid (Calls Tryd.prog 30 #[.iface 156 (.pointer (some ⟨qf, 0, none⟩)), .iface 62 (.int .i64 14)] x5 fun e w' => e = .returned (.bool true) ∧ x5 = w') := Lib.hid (Err.is_fault qf 14 14 x5 HC5.out)
                                    refine os_tk (some 238) (.iface 156 (.pointer (some ⟨qf, 0, none⟩))) rfl rfl (by go_simp) (fun _ _ => by simp [execOp, go_sem]) ?_
                                    simp only [Act.put, pS]
                                    refine os_tk (some 239) (.bool true) rfl rfl (by go_simp) (fun _ _ => by simp [execOp, go_sem]) ?_
                                    simp only [Act.put, pS]
                                    refine os_tk (some 240) (.bool true) rfl rfl (by go_simp) (fun _ _ => by simp [execOp, go_sem]) ?_
                                    simp only [Act.put, pS]
                                    refine os_tk (some 241) (.iface 156 (.pointer (some ⟨qf, 0, none⟩))) rfl rfl (by go_simp) (fun _ _ => by simp [execOp, go_sem]) ?_
                                    simp only [Act.put, pS]
                                    refine os_tk (some 242) (.iface 62 (.int .i64 14)) rfl rfl (by go_simp) (fun _ _ => by simp [execOp, go_sem]) ?_
                                    simp only [Act.put, pS]
                                    refine os_f rfl (by go_simp) fun K' hK' => ?_
                                    go_simp
                                    refine HIS.out.mono ?_
                                    rintro e y ⟨he, hw⟩
                                    obtain rfl : e = _ := he
                                    subst hw
                                    refine hK' _ _ rfl ?_
                                    clear hK' K' HIS
                                    try simp only [Act.put, pS]
                                    refine os_tk (some 244) (.bool false) rfl rfl (by go_simp) (fun _ _ => by simp [execOp, go_sem]) ?_
                                    simp only [Act.put, pS]
                                    refine os_tk (some 245) (.bool false) rfl rfl (by go_simp) (fun _ _ => by simp [execOp, go_sem]) ?_
                                    simp only [Act.put, pS]
                                    refine os_tk (some 246) (.bool false) rfl rfl (by go_simp) (fun _ _ => by simp [execOp, go_sem]) ?_
                                    simp only [Act.put, pS]
                                    refine os_tk (some 247) (.iface 156 (.pointer (some ⟨qf, 0, none⟩))) rfl rfl (by go_simp) (fun _ _ => by simp [execOp, go_sem]) ?_
                                    simp only [Act.put, pS]
                                    refine os_tk (some 248) (.bool false) rfl rfl (by go_simp) (fun _ _ => by simp [execOp, go_sem]) ?_
                                    simp only [Act.put, pS]
                                    refine os_tk (some 249) (.bool false) rfl rfl (by go_simp) (fun _ _ => by simp [execOp, go_sem]) ?_
                                    simp only [Act.put, pS]
                                    refine os_un (some 250) rfl rfl (by go_simp) ?_
                                    simp only [Act.put, pS]
                                    refine os_un (some 251) rfl rfl (by go_simp) ?_
                                    simp only [Act.put, pS]
                                    refine os_un (some 252) rfl rfl (by go_simp) ?_
                                    simp only [Act.put, pS]
                                    refine os_un (some 253) rfl rfl (by go_simp) ?_
                                    simp only [Act.put, pS]
                                    refine os_un (some 254) rfl rfl (by go_simp) ?_
                                    simp only [Act.put, pS]
                                    refine os_un (some 255) rfl rfl (by go_simp) ?_
                                    simp only [Act.put, pS]
                                    refine os_tk (some 256) (.bool false) rfl rfl (by go_simp) (fun _ _ => by simp [execOp, go_sem]) ?_
                                    simp only [Act.put, pS]
                                    refine os_tk (some 257) (.bool false) rfl rfl (by go_simp) (fun _ _ => by simp [execOp, go_sem]) ?_
                                    simp only [Act.put, pS]
                                    refine os_done (NoPanic.normal ?_)
                                    clear HC5
                                    have HKN : Hid (k + 1 ≤ 17) := Lib.hid (by have := HD.out; have := HKD.out; omega)
                                    have hw1 : wrap64 ((j : Int) + 1) = ((j + 1 : Nat) : Int) := by have := HJM.out; have := HM.out; unfold wrap64; omega
                                    have HW1 := Lib.hid hw1
                                    have ha := askN_len A5 (hhw Md D (Ix j) rt) (k + 1)
                                    have hd := HD.out.1
                                    have h4 := HA5.out
                                    have HAN : Hid ((askN A5 (hhw Md D (Ix j) rt) (k + 1)).length ≤ 17 * m + 17 * (j + 1)) := Lib.hid (by have := HKN.out; omega)
                                    clear ha hd h4
                                    cases bb
                                    · go_wp2_with (fail)
                                      go_roundw
                                      case rel => exact ⟨j + 1, true, HJM.out.1, rfl, by go_num, Lib.hid ⟨Ts1, _, HE5.out.sub (bx' := [⟨q8, 39, 32, fun i => bv (rt i)⟩]) (fun b hb => List.mem_cons_of_mem _ hb), HAN.out, fun r l hr hl e => rfl⟩⟩
                                      case measure => first | exact meas_lp HJM.out.1 HW1.out | exact meas_nw HJM.out.1
                                    · go_wp2_with (fail)
                                      go_roundw
                                      case rel => exact ⟨j + 1, true, HJM.out.1, rfl, by go_num, Lib.hid ⟨Ts1, _, HE5.out.sub (bx' := [⟨q8, 39, 32, fun i => bv (rt i)⟩]) (fun b hb => List.mem_cons_of_mem _ hb), HAN.out, fun r l hr hl e => rfl⟩⟩
                                      case measure => first | exact meas_lp HJM.out.1 HW1.out | exact meas_nw HJM.out.1
                                · as_aux_lemma =>
                                    refine og_of rfl (by go_simp) fun K' hK' => ?_
                                    unfold Oper.wp
                                    rw [exec_allocH _ _ _ rfl, Oper.upon_value]
                                    have HE2 := Lib.hid (HEd.out.alloc 39 32 (fun _ => bv 0#8))
                                    have HNQ : Hid (q8 ≠ x1.heap.size) := Lib.hid (by have := HEd.out.gm.lt (List.mem_cons_self ..); simp only at this; omega)
                                    refine hK' _ _ ⟨((HE2.out.gm.bx _ (List.mem_cons_of_mem _ (List.mem_cons_self ..))).1), (HE2.out.gm.below.cell (p := ⟨c, o, none⟩) (inHeap HCL.out)).trans HCL.out⟩ ?_
                                    clear hK' K'
                                    try simp only [Act.put, pS]
                                    generalize x1.alloc (.cells (tab 32 fun _ => bv 0#8) 39) = x2 at *
                                    generalize x1.heap.size = q17 at *
                                    have hA := HE2.out.gm.readK (k := k) (by have := HA5.out; have := HJM.out; have := HM.out; omega) (Nat.le_trans HD.out.1 (by decide)) HI.out (Nat.le_of_lt HKD.out) HHK.out HEND.out
                                    unfold dv at hA
                                    have HA := Lib.hid hA
                                    clear hA
                                    refine og_f rfl (by go_simp) fun K' hK' => ?_
                                    go_simp
                                    refine HA.out.mono ?_
                                    rintro e x3 ⟨xv, E, he, hhit, hmiss, Ts1, g1, g2, g3⟩
                                    obtain rfl : e = _ := he
                                    obtain ⟨qf, hE, _, c1, hq⟩ := hmiss HKD.out
                                    subst hE
                                    rw [if_pos HKD.out] at g1
                                    have HC0 := Lib.hid (And.intro c1 hq)
                                    clear c1 hq
                                    have HE3 := Lib.hid (HE2.out.step g1 g2 g3)
                                    refine hK' _ _ ⟨((HE3.out.gm.bx _ (List.mem_cons_of_mem _ (List.mem_cons_self ..))).1), (HE3.out.gm.below.cell (p := ⟨c, o, none⟩) (inHeap HCL.out)).trans HCL.out⟩ ?_
                                    clear hK' K' HA hhit hmiss g1 g2 g3
                                    try simp only [Act.put, pS]
                                    refine og_tk (some 219) (.tuple #[.agg (tab 32 fun i => bv (xv i)), .iface 156 (.pointer (some ⟨qf, 0, none⟩))]) rfl rfl (by go_simp) (fun _ _ => by simp [execOp, go_sem]) ?_
                                    simp only [Act.put, pS]
                                    refine og_tk (some 236) (.agg (tab 32 fun i => bv (xv i))) rfl rfl (by go_simp) (fun _ _ => by simp [execOp, go_sem]) ?_
                                    simp only [Act.put, pS]
                                    refine og_tk (some 237) (.iface 156 (.pointer (some ⟨qf, 0, none⟩))) rfl rfl (by go_simp) (fun _ _ => by simp [execOp, go_sem]) ?_
                                    simp only [Act.put, pS]
                                    have HC := Lib.hid HC0.out.1
                                    have HQN : Hid (qf ≠ q17) := Lib.hid (by have h1 := HC0.out.2; have h2 := HE2.out.gm.lt (List.mem_cons_self ..); simp only at h2; omega)
                                    clear HC0
                                    refine og_f rfl (by go_simp) fun K' hK' => ?_
                                    refine wp_store_row 39 (.tmp 32) (.tmp 236) rfl q17 (tab 32 fun i => bv (xv i)) rfl rfl 39 (tab 32 fun _ => bv 0#8) ((HE3.out.gm.bx _ (List.mem_cons_self ..)).1) (infH _) (by simp only [tab_size]) (one_bv _ _) ?_
                                    have HE4 := Lib.hid (HE3.out.put (f := fun i => bv (xv i)) (fun c hc => by
                                      have h1 := HNQ.out
                                      simp only [List.mem_cons, List.not_mem_nil, or_false] at hc
                                      subst hc
                                      exact h1))
                                    refine hK' _ _ ⟨((HE4.out.gm.bx _ (List.mem_cons_of_mem _ (List.mem_cons_self ..))).1), (HE4.out.gm.below.cell (p := ⟨c, o, none⟩) (inHeap HCL.out)).trans HCL.out⟩ ?_
                                    clear hK' K'
                                    try simp only [Act.put, pS]
                                    have HC4 := Lib.hid ((cell_rowN (b := qf) (i := 1) (tab 32 fun i => bv (xv i)) HQN.out).trans HC.out)
                                    clear HC
                                    generalize x3.setRow q17 (tab 32 fun i => bv (xv i)) = x4 at *
                                    refine og_f rfl (by go_simp) fun K' hK' => ?_
                                    go_simp
                                    refine hK' _ _ ⟨((HE4.out.gm.bx _ (List.mem_cons_of_mem _ (List.mem_cons_self ..))).1), (HE4.out.gm.below.cell (p := ⟨c, o, none⟩) (inHeap HCL.out)).trans HCL.out⟩ ?_
                                    clear hK' K'
                                    try simp only [Act.put, pS]
                                    refine og_done (NoPanic.normal ?_)
                                    go_upto_region 62 with (fail)
                                    have HE5 := Lib.hid (HE4.out.next (Below.refl _ _).drew)
                                    clear HE4
                                    have HC5 := Lib.hid (((Below.refl x4.heap.size x4).drew.cell (p := ⟨qf, 1, none⟩) (inHeap HC4.out)).trans HC4.out)
                                    clear HC4
                                    refine wp_region_os (fun z : World => x4.drew = z) (.take 0 (.take 1 (.take 2 (.take 3 (.take 4 (.one 5 (.take 6 (.take 7 (.take 8 (.take 9 (.take 10 (.take 11 (.take 12 (.take 13 (.take 14 (.take 15 (.take 16 (.take 17 (.take 18 (.take 19 .done)))))))))))))))))))) (by kernel_rfl) (by as_aux_lemma => kernel_rfl) rfl ?_
                                    generalize x4.drew = x5 at *
                                    have HIS : Hid (Calls Tryd.prog 30 #[.iface 156 (.pointer (some ⟨qf, 0, none⟩)), .iface 62 (.int .i64 14)] x5 fun e w' => e = .returned (.bool true) ∧ x5 = w') := Lib.hid (Err.is_fault qf 14 14 x5 HC5.out)
                                    refine os_tk (some 238) (.iface 156 (.pointer (some ⟨qf, 0, none⟩))) rfl rfl (by go_simp) (fun _ _ => by simp [execOp, go_sem]) ?_
                                    simp only [Act.put, pS]
                                    refine os_tk (some 239) (.bool true) rfl rfl (by go_simp) (fun _ _ => by simp [execOp, go_sem]) ?_
                                    simp only [Act.put, pS]
                                    refine os_tk (some 240) (.bool true) rfl rfl (by go_simp) (fun _ _ => by simp [execOp, go_sem]) ?_
                                    simp only [Act.put, pS]
                                    refine os_tk (some 241) (.iface 156 (.pointer (some ⟨qf, 0, none⟩))) rfl rfl (by go_simp) (fun _ _ => by simp [execOp, go_sem]) ?_
                                    simp only [Act.put, pS]
                                    refine os_tk (some 242) (.iface 62 (.int .i64 14)) rfl rfl (by go_simp) (fun _ _ => by simp [execOp, go_sem]) ?_
                                    simp only [Act.put, pS]
                                    refine os_f rfl (by go_simp) fun K' hK' => ?_
                                    go_simp
                                    refine HIS.out.mono ?_
                                    rintro e y ⟨he, hw⟩
                                    obtain rfl : e = _ := he
                                    subst hw
                                    refine hK' _ _ rfl ?_
                                    clear hK' K' HIS
                                    try simp only [Act.put, pS]
                                    refine os_tk (some 244) (.bool false) rfl rfl (by go_simp) (fun _ _ => by simp [execOp, go_sem]) ?_
                                    simp only [Act.put, pS]
                                    refine os_tk (some 245) (.bool false) rfl rfl (by go_simp) (fun _ _ => by simp [execOp, go_sem]) ?_
                                    simp only [Act.put, pS]
                                    refine os_tk (some 246) (.bool false) rfl rfl (by go_simp) (fun _ _ => by simp [execOp, go_sem]) ?_
                                    simp only [Act.put, pS]
                                    refine os_tk (some 247) (.iface 156 (.pointer (some ⟨qf, 0, none⟩))) rfl rfl (by go_simp) (fun _ _ => by simp [execOp, go_sem]) ?_
                                    simp only [Act.put, pS]
                                    refine os_tk (some 248) (.bool false) rfl rfl (by go_simp) (fun _ _ => by simp [execOp, go_sem]) ?_
                                    simp only [Act.put, pS]
                                    refine os_tk (some 249) (.bool false) rfl rfl (by go_simp) (fun _ _ => by simp [execOp, go_sem]) ?_
                                    simp only [Act.put, pS]
                                    refine os_un (some 250) rfl rfl (by go_simp) ?_
                                    simp only [Act.put, pS]
                                    refine os_un (some 251) rfl rfl (by go_simp) ?_
                                    simp only [Act.put, pS]
                                    refine os_un (some 252) rfl rfl (by go_simp) ?_
                                    simp only [Act.put, pS]
                                    refine os_un (some 253) rfl rfl (by go_simp) ?_
                                    simp only [Act.put, pS]
                                    refine os_un (some 254) rfl rfl (by go_simp) ?_
                                    simp only [Act.put, pS]
                                    refine os_un (some 255) rfl rfl (by go_simp) ?_
                                    simp only [Act.put, pS]
                                    refine os_tk (some 256) (.bool false) rfl rfl (by go_simp) (fun _ _ => by simp [execOp, go_sem]) ?_
                                    simp only [Act.put, pS]
                                    refine os_tk (some 257) (.bool false) rfl rfl (by go_simp) (fun _ _ => by simp [execOp, go_sem]) ?_
                                    simp only [Act.put, pS]
                                    refine os_done (NoPanic.normal ?_)
                                    clear HC5
                                    have HKN : Hid (k + 1 ≤ 17) := Lib.hid (by have := HD.out; have := HKD.out; omega)
                                    have hw1 : wrap64 ((j : Int) + 1) = ((j + 1 : Nat) : Int) := by have := HJM.out; have := HM.out; unfold wrap64; omega
                                    have HW1 := Lib.hid hw1
                                    have ha := askN_len A5 (hhw Md D (Ix j) rt) (k + 1)
                                    have hd := HD.out.1
                                    have h4 := HA5.out
                                    have HAN : Hid ((askN A5 (hhw Md D (Ix j) rt) (k + 1)).length ≤ 17 * m + 17 * (j + 1)) := Lib.hid (by have := HKN.out; omega)
                                    clear ha hd h4
                                    cases bb
                                    · go_wp2_with (fail)
                                      go_roundw
                                      case rel => exact ⟨j + 1, true, HJM.out.1, rfl, by go_num, Lib.hid ⟨Ts1, _, HE5.out.sub (bx' := [⟨q8, 39, 32, fun i => bv (rt i)⟩]) (fun b hb => List.mem_cons_of_mem _ hb), HAN.out, fun r l hr hl e => rfl⟩⟩
                                      case measure => first | exact meas_lp HJM.out.1 HW1.out | exact meas_nw HJM.out.1
                                    · go_wp2_with (fail)
                                      go_roundw
                                      case rel => exact ⟨j + 1, true, HJM.out.1, rfl, by go_num, Lib.hid ⟨Ts1, _, HE5.out.sub (bx' := [⟨q8, 39, 32, fun i => bv (rt i)⟩]) (fun b hb => List.mem_cons_of_mem _ hb), HAN.out, fun r l hr hl e => rfl⟩⟩
                                      case measure => first | exact meas_lp HJM.out.1 HW1.out | exact meas_nw HJM.out.1
                              · have e : D = k := by omega
                                subst e
                                have HHK := Lib.hid hk2
                                have HDR := Lib.hid hk4
                                have HKV := Lib.hid hk5
                                clear hk1 hk2 hk3 hk4 hk5 hkd
                                obtain ⟨c, off, hAP, hcell⟩ := HAR.out j HJM.out.2
                                subst hAP
                                obtain ⟨o, ho⟩ : ∃ o, off + j * 33 = o := ⟨_, rfl⟩
                                rw [ho] at hcell
                                have HJO : Hid (j < len ∧ off + j * 33 = o) := Lib.hid ⟨HJM.out.2, ho⟩
                                have HJX : Hid ((IntKind.u64.wrap (IntKind.i64.wrap (ar j + 1))).tmod (n2 : Int) = (Ix j : Int) ∧ ¬ n2 = 0 ∧ IntKind.i64.wrap (Ix j : Int) = (Ix j : Int) ∧ IntKind.u64.wrap (Ix j : Int) = (Ix j : Int)) := Lib.hid ⟨(HIX.out j).1, by have := HN2.out; omega, IntWalk.i64_in _ (by have := (HIX.out j).2; have := HN2.out; omega), IntWalk.u64_in _ (by have := (HIX.out j).2; have := HN2.out; omega)⟩
                                have HI : Hid (Ix j < 2 ^ D) := Lib.hid (by rw [HN2.out.1]; exact (HIX.out j).2)
                                have HCL := Lib.hid hcell
                                clear ho hcell
                                have HEd := Lib.hid (HE.out.next (Below.refl _ _).drew)
                                refine wp_region_og (fun z : World => IsTab z q8 39 32 (fun i => bv (rt i)) ∧ z.cell? ⟨c, o, none⟩ = some (.int .i64 (ar j))) (.take 0 (.take 1 (.take 2 (.take 3 (.take 4 (.take 5 (.take 6 (.take 7 (.take 8 (.take 9 (.take 10 (.take 11 (.take 12 (.take 13 (.take 14 (.two 15 (.take 16 (.take 17 (.take 18 (.one 19 (.one 20 (.one 21 .done)))))) 19 (.one 15 (.take 16 (.take 17 (.take 18 (.one 20 (.one 21 .done)))))))))))))))))))))) (by kernel_rfl) (by as_aux_lemma => kernel_rfl) ⟨((HEd.out.gm.bx _ (List.mem_cons_self ..)).1), (HEd.out.gm.below.cell (p := ⟨c, o, none⟩) (inHeap HCL.out)).trans HCL.out⟩ ?_
                                generalize wr.drew = x1 at *
                                clear HE
                                refine og_tk (some 220) (.pointer (some ⟨s3, 0, none⟩)) rfl rfl (by go_simp) (fun _ _ => by simp [execOp, go_sem]) ?_
                                simp only [Act.put, pS]
                                refine og_tk (some 221) (.int .i64 D) rfl rfl (by go_simp) (fun _ _ => by simp [execOp, go_sem]) ?_
                                simp only [Act.put, pS]
                                refine og_ld (some 222) 39 (.tmp 8) (.pointer (some ⟨q8, 0, none⟩)) (.agg (tab 32 fun i => bv (rt i))) rfl rfl (by go_simp) rfl rfl (fun y hy => loadHb hy.1) ?_
                                simp only [Act.put, pS]
                                refine og_tk (some 223) (.slice (some ⟨c, off, none⟩) len cap) rfl rfl (by go_simp) (fun _ _ => by simp [execOp, go_sem]) ?_
                                simp only [Act.put, pS]
                                refine og_tk (some 224) (.int .i64 j) rfl rfl (by go_simp) (fun _ _ => by simp [execOp, go_sem]) ?_
                                simp only [Act.put, pS]
                                refine og_tk (some 225) (.pointer (some ⟨c, o, none⟩)) rfl rfl (by go_simp) (fun y hy => by have h1 := HJO.out.1; have h2 := HJO.out.2; simp [execOp, go_sem, h1, h2, add_at, Result.andThen, Tryd.underlying64]) ?_
                                simp only [Act.put, pS]
                                refine og_tk (some 226) (.pointer (some ⟨c, o, none⟩)) rfl rfl (by go_simp) (fun _ _ => by simp [execOp, go_sem]) ?_
                                simp only [Act.put, pS]
                                refine og_ld (some 227) 3 (.tmp 226) (.pointer (some ⟨c, o, none⟩)) (.int .i64 (ar j)) rfl rfl (by go_simp) rfl rfl (fun y hy => by have h := hy.2; simp [Instr.loadAt, go_sem, h, Tryd.underlying3]) ?_
                                simp only [Act.put, pS]
                                refine og_tk (some 228) (.int .i64 (IntKind.i64.wrap (ar j + 1))) rfl rfl (by go_simp) (fun _ _ => by simp [execOp, go_sem]) ?_
                                simp only [Act.put, pS]
                                refine og_tk (some 229) (.int .u64 (IntKind.u64.wrap (IntKind.i64.wrap (ar j + 1)))) rfl rfl (by go_simp) (fun _ _ => by simp [execOp, go_sem]) ?_
                                simp only [Act.put, pS]
                                refine og_tk (some 230) (.int .i64 D) rfl rfl (by go_simp) (fun _ _ => by simp [execOp, go_sem]) ?_
                                simp only [Act.put, pS]
                                refine og_tk (some 231) (.int .u64 (IntKind.u64.wrap (D : Int))) rfl rfl (by go_simp) (fun _ _ => by simp [execOp, go_sem]) ?_
                                simp only [Act.put, pS]
                                refine og_tk (some 232) (.int .u64 n2) rfl rfl (by go_simp) (fun y hy => by have h := HSH.out; simp [execOp, go_sem, h, Result.andThen]) ?_
                                simp only [Act.put, pS]
                                refine og_tk (some 233) (.int .u64 (Ix j)) rfl rfl (by go_simp) (fun _ _ => by have h := HJX.out; simp [execOp, go_sem, h, Result.andThen]) ?_
                                simp only [Act.put, pS]
                                refine og_tk (some 234) (.int .i64 (Ix j)) rfl rfl (by go_simp) (fun _ _ => by have h := HJX.out; simp [execOp, go_sem, h, Result.andThen]) ?_
                                simp only [Act.put, pS]
                                refine og_two ?_ ?_
                                · as_aux_lemma =>
                                    have hA := HEd.out.gm.readK (k := D) (by have := HA5.out; have := HJM.out; have := HM.out; omega) (Nat.le_trans HD.out.1 (by decide)) HI.out (Nat.le_refl _) HHK.out (.inl rfl)
                                    unfold dv at hA
                                    have HA := Lib.hid hA
                                    clear hA
                                    refine og_of rfl (by go_simp) fun K' hK' => ?_
                                    go_simp
                                    refine HA.out.mono ?_
                                    rintro e x2 ⟨xv, E, he, hhit, hmiss, Ts1, g1, g2, g3⟩
                                    obtain rfl : e = _ := he
                                    obtain ⟨hx, hE⟩ := hhit rfl
                                    subst hE
                                    rw [if_neg (Nat.lt_irrefl _)] at g1
                                    have HXV : Hid (Wt.key (g j) = Wt.key xv) := Lib.hid (by rw [hx]; exact (HKV.out rfl).symm)
                                    clear hx
                                    have HE2 := Lib.hid (HEd.out.step g1 g2 g3)
                                    refine hK' _ _ ⟨((HE2.out.gm.bx _ (List.mem_cons_self ..)).1), (HE2.out.gm.below.cell (p := ⟨c, o, none⟩) (inHeap HCL.out)).trans HCL.out⟩ ?_
                                    clear hK' K' HA hhit hmiss g1 g2 g3
                                    try simp only [Act.put, pS]
                                    refine og_tk (some 219) (.tuple #[.agg (tab 32 fun i => bv (xv i)), .nilIface]) rfl rfl (by go_simp) (fun _ _ => by simp [execOp, go_sem]) ?_
                                    simp only [Act.put, pS]
                                    refine og_tk (some 236) (.agg (tab 32 fun i => bv (xv i))) rfl rfl (by go_simp) (fun _ _ => by simp [execOp, go_sem]) ?_
                                    simp only [Act.put, pS]
                                    refine og_tk (some 237) (.nilIface) rfl rfl (by go_simp) (fun _ _ => by simp [execOp, go_sem]) ?_
                                    simp only [Act.put, pS]
                                    refine og_f rfl (by go_simp) fun K' hK' => ?_
                                    unfold Oper.wp
                                    rw [exec_allocH _ _ _ rfl, Oper.upon_value]
                                    have HE3 := Lib.hid (HE2.out.alloc 39 32 (fun _ => bv 0#8))
                                    have HNQ : Hid (q8 ≠ x2.heap.size) := Lib.hid (by have := HE2.out.gm.lt (List.mem_cons_self ..); simp only at this; omega)
                                    refine hK' _ _ ⟨((HE3.out.gm.bx _ (List.mem_cons_of_mem _ (List.mem_cons_self ..))).1), (HE3.out.gm.below.cell (p := ⟨c, o, none⟩) (inHeap HCL.out)).trans HCL.out⟩ ?_
                                    clear hK' K'
                                    try simp only [Act.put, pS]
                                    generalize x2.alloc (.cells (tab 32 fun _ => bv 0#8) 39) = x3 at *
                                    generalize x2.heap.size = q17 at *
                                    refine og_f rfl (by go_simp) fun K' hK' => ?_
                                    refine wp_store_row 39 (.tmp 32) (.tmp 236) rfl q17 (tab 32 fun i => bv (xv i)) rfl rfl 39 (tab 32 fun _ => bv 0#8) ((HE3.out.gm.bx _ (List.mem_cons_self ..)).1) (infH _) (by simp only [tab_size]) (one_bv _ _) ?_
                                    have HE4 := Lib.hid (HE3.out.put (f := fun i => bv (xv i)) (fun c hc => by
                                      have h1 := HNQ.out
                                      simp only [List.mem_cons, List.not_mem_nil, or_false] at hc
                                      subst hc
                                      exact h1))
                                    refine hK' _ _ ⟨((HE4.out.gm.bx _ (List.mem_cons_of_mem _ (List.mem_cons_self ..))).1), (HE4.out.gm.below.cell (p := ⟨c, o, none⟩) (inHeap HCL.out)).trans HCL.out⟩ ?_
                                    clear hK' K'
                                    try simp only [Act.put, pS]
                                    generalize x3.setRow q17 (tab 32 fun i => bv (xv i)) = x4 at *
                                    refine og_f rfl (by go_simp) fun K' hK' => ?_
                                    go_simp
                                    refine hK' _ _ ⟨((HE4.out.gm.bx _ (List.mem_cons_of_mem _ (List.mem_cons_self ..))).1), (HE4.out.gm.below.cell (p := ⟨c, o, none⟩) (inHeap HCL.out)).trans HCL.out⟩ ?_
                                    clear hK' K'
                                    try simp only [Act.put, pS]
                                    refine og_done (NoPanic.normal ?_)
                                    go_upto_region 62 with (fail)
                                    have HE5 := Lib.hid (HE4.out.next (Below.refl _ _).drew)
                                    clear HE4
                                    refine wp_region_os (fun z : World => x4.drew = z) (.take 0 (.take 1 (.take 2 (.take 3 (.take 4 (.skip 5 (.take 6 (.take 7 (.take 8 (.take 9 (.take 10 (.take 11 (.take 12 (.take 13 (.take 14 (.take 15 (.take 16 (.take 17 (.take 18 (.take 19 .done)))))))))))))))))))) (by kernel_rfl) (by as_aux_lemma => kernel_rfl) rfl ?_
                                    generalize x4.drew = x5 at *
                                    have HL28 := Lib.hid (loadHb ((HE5.out.gm.bx _ (List.mem_cons_self ..)).1))
                                    have hld : ∀ k, k < m → ∃ gV, va = some ⟨gV, 0, none⟩ ∧ ∀ y, Below x5.heap.size x5 y → (Instr.loadAt 39 (.pointer (some ⟨gV, 32 * k, none⟩))).run Tryd.prog y = .ok (.agg (tab 32 fun i => bv (g k i))) y := by
                                      obtain ⟨a', c', hU, h⟩ := row_hq HE5.out.sd.1
                                      cases hU
                                      exact h
                                    obtain ⟨gV, hgV, hl⟩ := hld j HJM.out.1
                                    subst hgV
                                    have hl0 := hl x5 (Below.refl _ _)
                                    rw [Nat.mul_comm 32 j, show (Value.agg (tab 32 fun i => bv (g j i))) = .agg (tab 32 fun i => bv (xv i)) from dv_key.2 HXV.out] at hl0
                                    obtain ⟨o2, ho2⟩ : ∃ o2, j * 32 = o2 := ⟨_, rfl⟩
                                    rw [ho2] at hl0
                                    have HO2 : Hid (j < m ∧ j * 32 = o2) := Lib.hid ⟨HJM.out.1, ho2⟩
                                    have HLV := Lib.hid hl0
                                    clear hld hl hl0 ho2
                                    refine os_tk (some 238) (.nilIface) rfl rfl (by go_simp) (fun _ _ => by simp [execOp, go_sem]) ?_
                                    simp only [Act.put, pS]
                                    refine os_tk (some 239) (.bool false) rfl rfl (by go_simp) (fun _ _ => by simp [execOp, go_sem]) ?_
                                    simp only [Act.put, pS]
                                    refine os_tk (some 240) (.bool false) rfl rfl (by go_simp) (fun _ _ => by simp [execOp, go_sem]) ?_
                                    simp only [Act.put, pS]
                                    refine os_un (some 241) rfl rfl (by go_simp) ?_
                                    simp only [Act.put, pS]
                                    refine os_un (some 242) rfl rfl (by go_simp) ?_
                                    simp only [Act.put, pS]
                                    refine os_skip (some 243) rfl rfl (by go_simp) ?_
                                    simp only [Act.put, pS]
                                    refine os_un (some 244) rfl rfl (by go_simp) ?_
                                    simp only [Act.put, pS]
                                    refine os_tk (some 245) (.bool false) rfl rfl (by go_simp) (fun _ _ => by simp [execOp, go_sem]) ?_
                                    simp only [Act.put, pS]
                                    refine os_tk (some 246) (.bool false) rfl rfl (by go_simp) (fun _ _ => by simp [execOp, go_sem]) ?_
                                    simp only [Act.put, pS]
                                    refine os_tk (some 247) (.nilIface) rfl rfl (by go_simp) (fun _ _ => by simp [execOp, go_sem]) ?_
                                    simp only [Act.put, pS]
                                    refine os_tk (some 248) (.bool true) rfl rfl (by go_simp) (fun _ _ => by simp [execOp, go_sem]) ?_
                                    simp only [Act.put, pS]
                                    refine os_tk (some 249) (.bool true) rfl rfl (by go_simp) (fun _ _ => by simp [execOp, go_sem]) ?_
                                    simp only [Act.put, pS]
                                    refine os_ld (some 250) 39 (.tmp 32) (.pointer (some ⟨q17, 0, none⟩)) (.agg (tab 32 fun i => bv (xv i))) rfl rfl (by go_simp) rfl rfl (fun y hy => hy ▸ HL28.out) ?_
                                    simp only [Act.put, pS]
                                    refine os_tk (some 251) (.slice (some ⟨gV, 0, none⟩) m vc) rfl rfl (by go_simp) (fun _ _ => by simp [execOp, go_sem]) ?_
                                    simp only [Act.put, pS]
                                    refine os_tk (some 252) (.int .i64 j) rfl rfl (by go_simp) (fun _ _ => by simp [execOp, go_sem]) ?_
                                    simp only [Act.put, pS]
                                    refine os_tk (some 253) (.pointer (some ⟨gV, o2, none⟩)) rfl rfl (by go_simp) (fun y hy => by have h1 := HO2.out.1; have h2 := HO2.out.2; simp [execOp, go_sem, h1, h2, Result.andThen, Tryd.underlying56]) ?_
                                    simp only [Act.put, pS]
                                    refine os_ld (some 254) 39 (.tmp 253) (.pointer (some ⟨gV, o2, none⟩)) (.agg (tab 32 fun i => bv (xv i))) rfl rfl (by go_simp) rfl rfl (fun y hy => hy ▸ HLV.out) ?_
                                    simp only [Act.put, pS]
                                    refine os_tk (some 255) (.bool false) rfl rfl (by go_simp) (fun y hy => exec_neqX (.tmp 250) (.tmp 254) 39 xv rfl rfl rfl) ?_
                                    simp only [Act.put, pS]
                                    refine os_tk (some 256) (.bool false) rfl rfl (by go_simp) (fun _ _ => by simp [execOp, go_sem]) ?_
                                    simp only [Act.put, pS]
                                    refine os_tk (some 257) (.bool false) rfl rfl (by go_simp) (fun _ _ => by simp [execOp, go_sem]) ?_
                                    simp only [Act.put, pS]
                                    refine os_done (NoPanic.normal ?_)
                                    clear HL28 HLV
                                    have HKN : Hid (D ≤ 17) := Lib.hid (by have := HD.out; omega)
                                    have hw1 : wrap64 ((j : Int) + 1) = ((j + 1 : Nat) : Int) := by have := HJM.out; have := HM.out; unfold wrap64; omega
                                    have HW1 := Lib.hid hw1
                                    have ha := askN_len A5 (hhw Md D (Ix j) rt) D
                                    have hd := HD.out.1
                                    have h4 := HA5.out
                                    have HAN : Hid ((askN A5 (hhw Md D (Ix j) rt) D).length ≤ 17 * m + 17 * (j + 1)) := Lib.hid (by have := HD.out; omega)
                                    clear ha hd h4
                                    cases bb
                                    · go_wp2_with (fail)
                                      go_roundw
                                      case rel => exact ⟨j + 1, false, HJM.out.1, rfl, by go_num, Lib.hid ⟨Ts1, _, HE5.out.sub (bx' := [⟨q8, 39, 32, fun i => bv (rt i)⟩]) (fun b hb => List.mem_cons_of_mem _ hb), HAN.out, fun r l hr hl e => by
                                          rcases Nat.lt_or_ge r j with h | h
                                          · exact HB5.out r l h hl e
                                          · obtain rfl : r = j := by omega
                                            exact absurd (HDR.out ⟨l, hl, e⟩) (Nat.lt_irrefl _)⟩⟩
                                      case measure => first | exact meas_lp HJM.out.1 HW1.out | exact meas_nw HJM.out.1
                                    · go_wp2_with (fail)
                                      go_roundw
                                      case rel => exact ⟨j + 1, true, HJM.out.1, rfl, by go_num, Lib.hid ⟨Ts1, _, HE5.out.sub (bx' := [⟨q8, 39, 32, fun i => bv (rt i)⟩]) (fun b hb => List.mem_cons_of_mem _ hb), HAN.out, fun r l hr hl e => by
                                          rcases Nat.lt_or_ge r j with h | h
                                          · exact HB5.out r l h hl e
                                          · obtain rfl : r = j := by omega
                                            exact absurd (HDR.out ⟨l, hl, e⟩) (Nat.lt_irrefl _)⟩⟩
                                      case measure => first | exact meas_lp HJM.out.1 HW1.out | exact meas_nw HJM.out.1
                                · as_aux_lemma =>
                                    refine og_of rfl (by go_simp) fun K' hK' => ?_
                                    unfold Oper.wp
                                    rw [exec_allocH _ _ _ rfl, Oper.upon_value]
                                    have HE2 := Lib.hid (HEd.out.alloc 39 32 (fun _ => bv 0#8))
                                    have HNQ : Hid (q8 ≠ x1.heap.size) := Lib.hid (by have := HEd.out.gm.lt (List.mem_cons_self ..); simp only at this; omega)
                                    refine hK' _ _ ⟨((HE2.out.gm.bx _ (List.mem_cons_of_mem _ (List.mem_cons_self ..))).1), (HE2.out.gm.below.cell (p := ⟨c, o, none⟩) (inHeap HCL.out)).trans HCL.out⟩ ?_
                                    clear hK' K'
                                    try simp only [Act.put, pS]
                                    generalize x1.alloc (.cells (tab 32 fun _ => bv 0#8) 39) = x2 at *
                                    generalize x1.heap.size = q17 at *
                                    have hA := HE2.out.gm.readK (k := D) (by have := HA5.out; have := HJM.out; have := HM.out; omega) (Nat.le_trans HD.out.1 (by decide)) HI.out (Nat.le_refl _) HHK.out (.inl rfl)
                                    unfold dv at hA
                                    have HA := Lib.hid hA
                                    clear hA
                                    refine og_f rfl (by go_simp) fun K' hK' => ?_
                                    go_simp
                                    refine HA.out.mono ?_
                                    rintro e x3 ⟨xv, E, he, hhit, hmiss, Ts1, g1, g2, g3⟩
                                    obtain rfl : e = _ := he
                                    obtain ⟨hx, hE⟩ := hhit rfl
                                    subst hE
                                    rw [if_neg (Nat.lt_irrefl _)] at g1
                                    have HXV : Hid (Wt.key (g j) = Wt.key xv) := Lib.hid (by rw [hx]; exact (HKV.out rfl).symm)
                                    clear hx
                                    have HE3 := Lib.hid (HE2.out.step g1 g2 g3)
                                    refine hK' _ _ ⟨((HE3.out.gm.bx _ (List.mem_cons_of_mem _ (List.mem_cons_self ..))).1), (HE3.out.gm.below.cell (p := ⟨c, o, none⟩) (inHeap HCL.out)).trans HCL.out⟩ ?_
                                    clear hK' K' HA hhit hmiss g1 g2 g3
                                    try simp only [Act.put, pS]
                                    refine og_tk (some 219) (.tuple #[.agg (tab 32 fun i => bv (xv i)), .nilIface]) rfl rfl (by go_simp) (fun _ _ => by simp [execOp, go_sem]) ?_
                                    simp only [Act.put, pS]
                                    refine og_tk (some 236) (.agg (tab 32 fun i => bv (xv i))) rfl rfl (by go_simp) (fun _ _ => by simp [execOp, go_sem]) ?_
                                    simp only [Act.put, pS]
                                    refine og_tk (some 237) (.nilIface) rfl rfl (by go_simp) (fun _ _ => by simp [execOp, go_sem]) ?_
                                    simp only [Act.put, pS]
                                    refine og_f rfl (by go_simp) fun K' hK' => ?_
                                    refine wp_store_row 39 (.tmp 32) (.tmp 236) rfl q17 (tab 32 fun i => bv (xv i)) rfl rfl 39 (tab 32 fun _ => bv 0#8) ((HE3.out.gm.bx _ (List.mem_cons_self ..)).1) (infH _) (by simp only [tab_size]) (one_bv _ _) ?_
                                    have HE4 := Lib.hid (HE3.out.put (f := fun i => bv (xv i)) (fun c hc => by
                                      have h1 := HNQ.out
                                      simp only [List.mem_cons, List.not_mem_nil, or_false] at hc
                                      subst hc
                                      exact h1))
                                    refine hK' _ _ ⟨((HE4.out.gm.bx _ (List.mem_cons_of_mem _ (List.mem_cons_self ..))).1), (HE4.out.gm.below.cell (p := ⟨c, o, none⟩) (inHeap HCL.out)).trans HCL.out⟩ ?_
                                    clear hK' K'
                                    try simp only [Act.put, pS]
                                    generalize x3.setRow q17 (tab 32 fun i => bv (xv i)) = x4 at *
                                    refine og_f rfl (by go_simp) fun K' hK' => ?_
                                    go_simp
                                    refine hK' _ _ ⟨((HE4.out.gm.bx _ (List.mem_cons_of_mem _ (List.mem_cons_self ..))).1), (HE4.out.gm.below.cell (p := ⟨c, o, none⟩) (inHeap HCL.out)).trans HCL.out⟩ ?_
                                    clear hK' K'
                                    try simp only [Act.put, pS]
                                    refine og_done (NoPanic.normal ?_)
                                    go_upto_region 62 with (fail)
                                    have HE5 := Lib.hid (HE4.out.next (Below.refl _ _).drew)
                                    clear HE4
                                    refine wp_region_os (fun z : World => x4.drew = z) (.take 0 (.take 1 (.take 2 (.take 3 (.take 4 (.skip 5 (.take 6 (.take 7 (.take 8 (.take 9 (.take 10 (.take 11 (.take 12 (.take 13 (.take 14 (.take 15 (.take 16 (.take 17 (.take 18 (.take 19 .done)))))))))))))))))))) (by kernel_rfl) (by as_aux_lemma => kernel_rfl) rfl ?_
                                    generalize x4.drew = x5 at *
                                    have HL28 := Lib.hid (loadHb ((HE5.out.gm.bx _ (List.mem_cons_self ..)).1))
                                    have hld : ∀ k, k < m → ∃ gV, va = some ⟨gV, 0, none⟩ ∧ ∀ y, Below x5.heap.size x5 y → (Instr.loadAt 39 (.pointer (some ⟨gV, 32 * k, none⟩))).run Tryd.prog y = .ok (.agg (tab 32 fun i => bv (g k i))) y := by
                                      obtain ⟨a', c', hU, h⟩ := row_hq HE5.out.sd.1
                                      cases hU
                                      exact h
                                    obtain ⟨gV, hgV, hl⟩ := hld j HJM.out.1
                                    subst hgV
                                    have hl0 := hl x5 (Below.refl _ _)
                                    rw [Nat.mul_comm 32 j, show (Value.agg (tab 32 fun i => bv (g j i))) = .agg (tab 32 fun i => bv (xv i)) from dv_key.2 HXV.out] at hl0
                                    obtain ⟨o2, ho2⟩ : ∃ o2, j * 32 = o2 := ⟨_, rfl⟩
                                    rw [ho2] at hl0
                                    have HO2 : Hid (j < m ∧ j * 32 = o2) := Lib.hid ⟨HJM.out.1, ho2⟩
                                    have HLV := Lib.hid hl0
                                    clear hld hl hl0 ho2
                                    refine os_tk (some 238) (.nilIface) rfl rfl (by go_simp) (fun _ _ => by simp [execOp, go_sem]) ?_
                                    simp only [Act.put, pS]
                                    refine os_tk (some 239) (.bool false) rfl rfl (by go_simp) (fun _ _ => by simp [execOp, go_sem]) ?_
                                    simp only [Act.put, pS]
                                    refine os_tk (some 240) (.bool false) rfl rfl (by go_simp) (fun _ _ => by simp [execOp, go_sem]) ?_
                                    simp only [Act.put, pS]
                                    refine os_un (some 241) rfl rfl (by go_simp) ?_
                                    simp only [Act.put, pS]
                                    refine os_un (some 242) rfl rfl (by go_simp) ?_
                                    simp only [Act.put, pS]
                                    refine os_skip (some 243) rfl rfl (by go_simp) ?_
                                    simp only [Act.put, pS]
                                    refine os_un (some 244) rfl rfl (by go_simp) ?_
                                    simp only [Act.put, pS]
                                    refine os_tk (some 245) (.bool false) rfl rfl (by go_simp) (fun _ _ => by simp [execOp, go_sem]) ?_
                                    simp only [Act.put, pS]
                                    refine os_tk (some 246) (.bool false) rfl rfl (by go_simp) (fun _ _ => by simp [execOp, go_sem]) ?_
                                    simp only [Act.put, pS]
                                    refine os_tk (some 247) (.nilIface) rfl rfl (by go_simp) (fun _ _ => by simp [execOp, go_sem]) ?_
                                    simp only [Act.put, pS]
                                    refine os_tk (some 248) (.bool true) rfl rfl (by go_simp) (fun _ _ => by simp [execOp, go_sem]) ?_
                                    simp only [Act.put, pS]
                                    refine os_tk (some 249) (.bool true) rfl rfl (by go_simp) (fun _ _ => by simp [execOp, go_sem]) ?_
                                    simp only [Act.put, pS]
                                    refine os_ld (some 250) 39 (.tmp 32) (.pointer (some ⟨q17, 0, none⟩)) (.agg (tab 32 fun i => bv (xv i))) rfl rfl (by go_simp) rfl rfl (fun y hy => hy ▸ HL28.out) ?_
                                    simp only [Act.put, pS]
                                    refine os_tk (some 251) (.slice (some ⟨gV, 0, none⟩) m vc) rfl rfl (by go_simp) (fun _ _ => by simp [execOp, go_sem]) ?_
                                    simp only [Act.put, pS]
                                    refine os_tk (some 252) (.int .i64 j) rfl rfl (by go_simp) (fun _ _ => by simp [execOp, go_sem]) ?_
                                    simp only [Act.put, pS]
                                    refine os_tk (some 253) (.pointer (some ⟨gV, o2, none⟩)) rfl rfl (by go_simp) (fun y hy => by have h1 := HO2.out.1; have h2 := HO2.out.2; simp [execOp, go_sem, h1, h2, Result.andThen, Tryd.underlying56]) ?_
                                    simp only [Act.put, pS]
                                    refine os_ld (some 254) 39 (.tmp 253) (.pointer (some ⟨gV, o2, none⟩)) (.agg (tab 32 fun i => bv (xv i))) rfl rfl (by go_simp) rfl rfl (fun y hy => hy ▸ HLV.out) ?_
                                    simp only [Act.put, pS]
                                    refine os_tk (some 255) (.bool false) rfl rfl (by go_simp) (fun y hy => exec_neqX (.tmp 250) (.tmp 254) 39 xv rfl rfl rfl) ?_
                                    simp only [Act.put, pS]
                                    refine os_tk (some 256) (.bool false) rfl rfl (by go_simp) (fun _ _ => by simp [execOp, go_sem]) ?_
                                    simp only [Act.put, pS]
                                    refine os_tk (some 257) (.bool false) rfl rfl (by go_simp) (fun _ _ => by simp [execOp, go_sem]) ?_
                                    simp only [Act.put, pS]
                                    refine os_done (NoPanic.normal ?_)
                                    clear HL28 HLV
                                    have HKN : Hid (D ≤ 17) := Lib.hid (by have := HD.out; omega)
                                    have hw1 : wrap64 ((j : Int) + 1) = ((j + 1 : Nat) : Int) := by have := HJM.out; have := HM.out; unfold wrap64; omega
                                    have HW1 := Lib.hid hw1
                                    have ha := askN_len A5 (hhw Md D (Ix j) rt) D
                                    have hd := HD.out.1
                                    have h4 := HA5.out
                                    have HAN : Hid ((askN A5 (hhw Md D (Ix j) rt) D).length ≤ 17 * m + 17 * (j + 1)) := Lib.hid (by have := HD.out; omega)
                                    clear ha hd h4
                                    cases bb
                                    · go_wp2_with (fail)
                                      go_roundw
                                      case rel => exact ⟨j + 1, false, HJM.out.1, rfl, by go_num, Lib.hid ⟨Ts1, _, HE5.out.sub (bx' := [⟨q8, 39, 32, fun i => bv (rt i)⟩]) (fun b hb => List.mem_cons_of_mem _ hb), HAN.out, fun r l hr hl e => by
                                          rcases Nat.lt_or_ge r j with h | h
                                          · exact HB5.out r l h hl e
                                          · obtain rfl : r = j := by omega
                                            exact absurd (HDR.out ⟨l, hl, e⟩) (Nat.lt_irrefl _)⟩⟩
                                      case measure => first | exact meas_lp HJM.out.1 HW1.out | exact meas_nw HJM.out.1
                                    · go_wp2_with (fail)
                                      go_roundw
                                      case rel => exact ⟨j + 1, true, HJM.out.1, rfl, by go_num, Lib.hid ⟨Ts1, _, HE5.out.sub (bx' := [⟨q8, 39, 32, fun i => bv (rt i)⟩]) (fun b hb => List.mem_cons_of_mem _ hb), HAN.out, fun r l hr hl e => by
                                          rcases Nat.lt_or_ge r j with h | h
                                          · exact HB5.out r l h hl e
                                          · obtain rfl : r = j := by omega
                                            exact absurd (HDR.out ⟨l, hl, e⟩) (Nat.lt_irrefl _)⟩⟩
                                      case measure => first | exact meas_lp HJM.out.1 HW1.out | exact meas_nw HJM.out.1
                            · have e : m = j := by omega
                              subst e
                              clear hj hjm
                              have hb : bb = true := HB5.out _ _ HRL.out.1 HRL.out.2.1 HRL.out.2.2.symm
                              subst hb
                              go_wp2_with (fail)
                              go_ret
                              exact ⟨rfl, HE.out.gm.below⟩

theorem witnessEnough_walk (d : Int) (a0 : Option Addr) (len0 cap0 : Nat) (dr : Int) (hd : (Lit.int .i64 d).wf = true) {w : World} (w0 : len0 ≤ maxLen ∧ ∀ i, i < len0 → ∃ c off, ∃ (a : Int) (lf : Hx), a0 = some ⟨c, off, none⟩ ∧ w.cell? ⟨c, off + i * 33, none⟩ = some (.int .i64 a) ∧ ∀ j, j < 32 → w.cell? ⟨c, off + i * 33 + 1 + j, none⟩ = some (bv (lf j))) (hdr : (Lit.int .i64 dr).wf = true) (hg : Et w) (ht : Laid.KTab w) :
    Calls Tryd.prog 6 #[.int .i64 d, .slice a0 len0 cap0, .int .i64 dr] w fun e w' => e = .returned (.bool true) ∧ Below w.heap.size w w' :=
  enough_in a0 len0 cap0 d dr w (by have := w0.1; unfold maxLen at this; omega) w0.2 hg ht
end Wt
end Go.Proofs.YtdmffnjbholkkaaDoor
