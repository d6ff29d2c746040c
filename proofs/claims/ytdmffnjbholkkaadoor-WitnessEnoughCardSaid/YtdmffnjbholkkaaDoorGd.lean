/- Merged. Own work. -/
import Derived.Test.YtdmffnjbholkkaaDoorUy
namespace Go.Proofs.YtdmffnjbholkkaaDoor
open Go.RowKit
set_option linter.unusedVariables false
set_option linter.unusedSimpArgs false
set_option linter.unusedVariables false
set_option linter.unusedSimpArgs false
namespace Wt
open Kc Mk
/-- A box of cells. -/
structure Bx where
  q : Nat
  t : Nat
  n : Nat
  g : Nat → Value
/-- A store and the document's, the digests at hand, boxes beside them. -/
structure Gm (W : World) (s t kb fb : Nat) (Ts Tt : Nat → Prop) (M : List (Hx × Px)) (A : List Hx) (N : List (Hx × Px)) (B : List Hx) (met : Bool) (V : Value) (K : List Hx) (bx : List Bx) (y : World) : Prop where
  st : IsSt y Ts s kb fb ⟨M, A⟩
  ro : IsR y Tt t ⟨N, B⟩ met
  row : y.ownsRow W.heap.size 28 32 V K.length (fl K)
  ts : ∀ j, Ts j → W.heap.size ≤ j ∧ j < y.heap.size
  tt : ∀ j, Tt j → W.heap.size ≤ j ∧ j < y.heap.size
  dj : ∀ j, Ts j → ¬ Tt j
  k1 : W.heap.size ≤ kb ∧ kb < y.heap.size ∧ ¬ Tt kb
  k2 : W.heap.size ≤ fb ∧ fb < y.heap.size ∧ ¬ Tt fb
  vs : ∀ j, V.ownBlock = some j → ¬ Ts j ∧ ¬ Tt j ∧ j ≠ kb ∧ j ≠ fb
  bx : ∀ b, b ∈ bx → IsTab y b.q b.t b.n b.g ∧ W.heap.size ≤ b.q ∧ ¬ Ts b.q ∧ ¬ Tt b.q ∧ b.q ≠ kb ∧ b.q ≠ fb ∧ V.ownBlock ≠ some b.q
  below : Below W.heap.size W y
  kt : Laid.KTab W
  et : Et W
  lo : lowB ≤ W.heap.size
section
variable {W y y' : World} {s t kb fb : Nat} {Ts Tt : Nat → Prop} {M N : List (Hx × Px)} {A B : List Hx} {met : Bool} {V : Value} {K : List Hx} {bx : List Bx}
theorem Gm.ktab (H : Gm W s t kb fb Ts Tt M A N B met V K bx y) : Laid.KTab y := ktab_below H.kt H.below
theorem Gm.next (H : Gm W s t kb fb Ts Tt M A N B met V K bx y) (hb : Below y.heap.size y y') : Gm W s t kb fb Ts Tt M A N B met V K bx y' :=
  ⟨H.st.below hb, H.ro.below hb, (Kept.ofBelow (S := fun _ => False) hb).row H.row (fun _ _ h => h), fun j h => ⟨(H.ts j h).1, Nat.lt_of_lt_of_le (H.ts j h).2 hb.size⟩, fun j h => ⟨(H.tt j h).1, Nat.lt_of_lt_of_le (H.tt j h).2 hb.size⟩, H.dj,
    ⟨H.k1.1, Nat.lt_of_lt_of_le H.k1.2.1 hb.size, H.k1.2.2⟩, ⟨H.k2.1, Nat.lt_of_lt_of_le H.k2.2.1 hb.size, H.k2.2.2⟩, H.vs, fun b h => ⟨(H.bx b h).1.below hb, (H.bx b h).2⟩, bl H.below hb, H.kt, H.et, H.lo⟩
theorem Gm.drew (H : Gm W s t kb fb Ts Tt M A N B met V K bx y) : Gm W s t kb fb Ts Tt M A N B met V K bx y.drew := H.next (Below.refl _ _).drew
theorem Gm.sub {bx' : List Bx} (H : Gm W s t kb fb Ts Tt M A N B met V K bx y) (h : ∀ b, b ∈ bx' → b ∈ bx) : Gm W s t kb fb Ts Tt M A N B met V K bx' y :=
  ⟨H.st, H.ro, H.row, H.ts, H.tt, H.dj, H.k1, H.k2, H.vs, fun b hb => H.bx b (h b hb), H.below, H.kt, H.et, H.lo⟩
theorem Gm.fresh (H : Gm W s t kb fb Ts Tt M A N B met V K bx y) (q : Nat) (hq : y.heap.size ≤ q) : W.heap.size ≤ q ∧ ¬ Ts q ∧ ¬ Tt q ∧ q ≠ kb ∧ q ≠ fb ∧ V.ownBlock ≠ some q := by
  have hW := H.below.size
  refine ⟨by omega, fun h => by have := H.ts q h; omega, fun h => by have := H.tt q h; omega, fun e => by have := H.k1; omega, fun e => by have := H.k2; omega, fun e => ?_⟩
  have := own_lt H.row e
  omega
theorem Gm.box {y0 : World} (H : Gm W s t kb fb Ts Tt M A N B met V K bx y) (q T n : Nat) (g : Nat → Value) (h : IsTab y q T n g) (H0 : Gm W s t kb fb Ts Tt M A N B met V K bx y0) (hq : y0.heap.size ≤ q) : Gm W s t kb fb Ts Tt M A N B met V K (⟨q, T, n, g⟩ :: bx) y :=
  ⟨H.st, H.ro, H.row, H.ts, H.tt, H.dj, H.k1, H.k2, H.vs, fun b hb => by
    rcases List.mem_cons.1 hb with rfl | hb
    · exact ⟨h, H0.fresh q hq⟩
    · exact H.bx b hb, H.below, H.kt, H.et, H.lo⟩
theorem Gm.alloc (H : Gm W s t kb fb Ts Tt M A N B met V K bx y) (T n : Nat) (g : Nat → Value) : Gm W s t kb fb Ts Tt M A N B met V K (⟨y.heap.size, T, n, g⟩ :: bx) (y.alloc (.cells (tab n g) T)) :=
  (H.next (ba _ _)).box _ T n g (IsTab.new _ _ _ _) H (Nat.le_refl _)
/-- Behind a call on the store. -/
theorem Gm.prog {Ts' : Nat → Prop} {M' : List (Hx × Px)} {A' : List Hx} (H : Gm W s t kb fb Ts Tt M A N B met V K bx y) (hs : IsSt y' Ts' s kb fb ⟨M', A'⟩) (ht : ∀ j, Ts' j → (Ts j ∨ y.heap.size ≤ j) ∧ j < y'.heap.size) (hk : Kept (Foot Ts kb fb) y y') : Gm W s t kb fb Ts' Tt M' A' N B met V K bx y' := by
  have hW := H.below.size
  have hz := hk.size
  have hlo : ∀ j, Foot Ts kb fb j → W.heap.size ≤ j := fun j h => h.elim (fun h => (H.ts j h).1) fun h => h.elim (fun h => h ▸ H.k1.1) fun h => h ▸ H.k2.1
  have hro : ∀ j, Tt j → ¬ Foot Ts kb fb j := fun j h1 h2 => by
    rcases h2 with h2 | h2 | h2
    · exact H.dj j h2 h1
    · exact H.k1.2.2 (h2 ▸ h1)
    · exact H.k2.2.2 (h2 ▸ h1)
  refine ⟨hs, H.ro.kept hk hro, hk.row H.row fun k e hh => ?_, fun j h => ?_, fun j h => ⟨(H.tt j h).1, by have := (H.tt j h).2; omega⟩, fun j h h2 => ?_, ⟨H.k1.1, by have := H.k1.2.1; omega, H.k1.2.2⟩, ⟨H.k2.1, by have := H.k2.2.1; omega, H.k2.2.2⟩, fun j e => ?_, fun b hb => ?_, H.below.trans (hk.below (by omega) fun k _ h => hlo k h), H.kt, H.et, H.lo⟩
  · have h1 := H.vs k e
    rcases hh with h2 | h2 | h2
    · exact h1.1 h2
    · exact h1.2.2.1 h2
    · exact h1.2.2.2 h2
  · rcases (ht j h).1 with h1 | h1
    · exact ⟨(H.ts j h1).1, (ht j h).2⟩
    · exact ⟨by omega, (ht j h).2⟩
  · rcases (ht j h).1 with h1 | h1
    · exact H.dj j h1 h2
    · have := (H.tt j h2).2; omega
  · have h1 := H.vs j e
    refine ⟨fun h => ?_, h1.2⟩
    rcases (ht j h).1 with h2 | h2
    · exact h1.1 h2
    · have := own_lt H.row e; omega
  · have h1 := H.bx b hb
    refine ⟨Wt.IsTab.kept h1.1 hk fun h => ?_, h1.2.1, fun h => ?_, h1.2.2.2⟩
    · rcases h with h2 | h2 | h2
      · exact h1.2.2.1 h2
      · exact h1.2.2.2.2.1 h2
      · exact h1.2.2.2.2.2.1 h2
    · rcases (ht b.q h).1 with h2 | h2
      · exact h1.2.2.1 h2
      · have := h1.1.lt; omega
/-- Behind a call on the document's store. -/
theorem Gm.refr {Tt' : Nat → Prop} {N' : List (Hx × Px)} {B' : List Hx} {met' : Bool} (H : Gm W s t kb fb Ts Tt M A N B met V K bx y) (hs : IsR y' Tt' t ⟨N', B'⟩ met') (ht : ∀ j, Tt' j → (Tt j ∨ y.heap.size ≤ j) ∧ j < y'.heap.size) (hk : Kept Tt y y') : Gm W s t kb fb Ts Tt' M A N' B' met' V K bx y' := by
  have hW := H.below.size
  have hz := hk.size
  have new : ∀ q, q < y.heap.size → ¬ Tt q → ¬ Tt' q := fun q h1 h2 h => by
    rcases (ht q h).1 with h3 | h3
    · exact h2 h3
    · omega
  refine ⟨H.st.kept hk (fun j h1 h2 => H.dj j h1 h2) H.k1.2.2 H.k2.2.2, hs, hk.row H.row fun k e hh => (H.vs k e).2.1 hh, fun j h => ⟨(H.ts j h).1, by have := (H.ts j h).2; omega⟩, fun j h => ?_, fun j h => new j (H.ts j h).2 (H.dj j h), ⟨H.k1.1, by have := H.k1.2.1; omega, new kb H.k1.2.1 H.k1.2.2⟩, ⟨H.k2.1, by have := H.k2.2.1; omega, new fb H.k2.2.1 H.k2.2.2⟩,
    fun j e => ⟨(H.vs j e).1, new j (own_lt H.row e) (H.vs j e).2.1, (H.vs j e).2.2⟩, fun b hb => ?_, H.below.trans (hk.below (by omega) fun k _ h => (H.tt k h).1), H.kt, H.et, H.lo⟩
  · rcases (ht j h).1 with h1 | h1
    · exact ⟨(H.tt j h1).1, (ht j h).2⟩
    · exact ⟨by omega, (ht j h).2⟩
  · have h1 := H.bx b hb
    exact ⟨Wt.IsTab.kept h1.1 hk h1.2.2.2.1, h1.2.1, h1.2.2.1, new _ h1.1.lt h1.2.2.2.1, h1.2.2.2.2⟩
/-- Behind an append to the digests at hand. -/
theorem Gm.grown {V' : Value} {x : Hx} (H : Gm W s t kb fb Ts Tt M A N B met V K bx y) (hr : y'.ownsRow W.heap.size 28 32 V' (K.length + 1) (fl K ++ flat 1 fun _ => x)) (hg : y.grownBy y' V.ownBlock) (hV : ∀ k, V'.ownBlock = some k → V.ownBlock = some k ∨ k = y.heap.size) : Gm W s t kb fb Ts Tt M A N B met V' (K ++ [x]) bx y' := by
  have hk : Kept (fun k => V.ownBlock = some k) y y' := ⟨hg.os, hg.tape, hg.output, hg.size, fun k hk hn => hg.block k hk (fun e => hn e.symm)⟩
  have hW := H.below.size
  have hz := hk.size
  refine ⟨H.st.kept hk (fun j h1 h2 => (H.vs j h2).1 h1) (fun h => (H.vs _ h).2.2.1 rfl) (fun h => (H.vs _ h).2.2.2 rfl), H.ro.kept hk fun j h1 h2 => (H.vs j h2).2.1 h1, ?_, fun j h => ⟨(H.ts j h).1, by have := (H.ts j h).2; omega⟩, fun j h => ⟨(H.tt j h).1, by have := (H.tt j h).2; omega⟩, H.dj, ⟨H.k1.1, by have := H.k1.2.1; omega, H.k1.2.2⟩, ⟨H.k2.1, by have := H.k2.2.1; omega, H.k2.2.2⟩, fun j e => ?_, fun b hb => ?_, H.below.trans (hk.below (by omega) fun k _ h => owns_base H.row h), H.kt, H.et, H.lo⟩
  · rw [List.length_append, List.length_singleton, fl_append]
    exact hr
  · rcases hV j e with h | h
    · exact H.vs j h
    · exact (H.fresh j (by omega)).2.imp id fun h => h.imp id fun h => h.imp id fun h => h.1
  · have h1 := H.bx b hb
    refine ⟨Wt.IsTab.kept h1.1 hk h1.2.2.2.2.2.2, h1.2.1, h1.2.2.1, h1.2.2.2.1, h1.2.2.2.2.1, h1.2.2.2.2.2.1, fun h => ?_⟩
    rcases hV _ h with h | h
    · exact h1.2.2.2.2.2.2 h
    · have := h1.1.lt; omega
/-- A box written anew. -/
theorem Gm.put {b : Bx} {g : Nat → Value} (H : Gm W s t kb fb Ts Tt M A N B met V K (b :: bx) y) (hn : ∀ c, c ∈ bx → c.q ≠ b.q) : Gm W s t kb fb Ts Tt M A N B met V K (⟨b.q, b.t, b.n, g⟩ :: bx) (y.setRow b.q (tab b.n g)) := by
  have h0 := H.bx b (List.mem_cons_self ..)
  have hk : Kept (fun k => k = b.q) y (y.setRow b.q (tab b.n g)) := ⟨by simp, by simp, by simp, by simp, fun k _ hk => setRow_other _ _ _ _ hk⟩
  have hW := H.below.size
  have hz := hk.size
  refine ⟨H.st.kept hk (fun j h1 h2 => h0.2.2.1 (h2 ▸ h1)) (fun h => h0.2.2.2.2.1 h.symm) (fun h => h0.2.2.2.2.2.1 h.symm), H.ro.kept hk fun j h1 h2 => h0.2.2.2.1 (h2 ▸ h1), hk.row H.row fun k e h => h0.2.2.2.2.2.2 (h ▸ e), fun j h => ⟨(H.ts j h).1, by have := (H.ts j h).2; omega⟩, fun j h => ⟨(H.tt j h).1, by have := (H.tt j h).2; omega⟩, H.dj, ⟨H.k1.1, by have := H.k1.2.1; omega, H.k1.2.2⟩, ⟨H.k2.1, by have := H.k2.2.1; omega, H.k2.2.2⟩, H.vs, fun c hc => ?_, H.below.trans (hk.below (by omega) fun k _ h => h ▸ h0.2.1), H.kt, H.et, H.lo⟩
  rcases List.mem_cons.1 hc with rfl | hc
  · exact ⟨h0.1.row, h0.2⟩
  · have h1 := H.bx c (List.mem_cons_of_mem _ hc)
    exact ⟨Wt.IsTab.kept h1.1 hk (hn c hc), h1.2⟩
end
/-- A store beside another one of its kin. -/
theorem IsSt.beside {w w' : World} {T1 T2 : Nat → Prop} {s c kb fb : Nat} {S1 S2 : Sto} (h : IsSt w T2 c kb fb S2) (h1 : IsSt w' T1 s kb fb S1) {U : Nat → Prop} (hk : Kept U w w') (hn : ∀ k, T2 k → ¬ U k) : IsSt w' T2 c kb fb S2 := by
  obtain ⟨pb, av, sv, ho⟩ := h.own
  exact ⟨⟨pb, av, sv, ho.kept hk hn⟩, h1.kin, h.n1, h.n2, h.lo⟩
section
variable {W y : World} {s t kb fb : Nat} {Ts Tt : Nat → Prop} {M N : List (Hx × Px)} {A B : List Hx} {met : Bool} {V : Value} {K : List Hx} {bx : List Bx}
theorem Gm.tsl (H : Gm W s t kb fb Ts Tt M A N B met V K bx y) (j : Nat) (hj : Ts j) : j < y.heap.size := (H.ts j hj).2
theorem Gm.ttl (H : Gm W s t kb fb Ts Tt M A N B met V K bx y) (j : Nat) (hj : Tt j) : j < y.heap.size := (H.tt j hj).2
theorem Gm.add (H : Gm W s t kb fb Ts Tt M A N B met V K bx y) (p : Px) : Calls Tryd.prog 17 #[.pointer (some ⟨s, 0, none⟩), pv p] y fun e w' => e = .returned (.tuple #[dv (hs p), .nilIface]) ∧ Gm W s t kb fb Ts Tt (putM M (hs p) p) A N B met V K bx w' ∧ Kept (Foot Ts kb fb) y w' :=
  (add_walk Ts s kb fb ⟨M, A⟩ p y H.ktab H.st H.tsl).mono fun e w' ⟨he, h1, h2⟩ => ⟨he, H.prog h1 (fun j hj => ⟨.inl hj, Nat.lt_of_lt_of_le (H.tsl j hj) h2.size⟩) h2, h2⟩
theorem foot_of {w w' : World} (h : Kept Ts w w') : Kept (Foot Ts kb fb) w w' := h.mono fun j _ hj => .inl hj
theorem Gm.get (H : Gm W s t kb fb Ts Tt M A N B met V K bx y) (h : Hx) (hn : A.length < 1073741824) : Calls Tryd.prog 19 #[.pointer (some ⟨s, 0, none⟩), dv h] y fun e w' => e = .returned (.tuple #[pv ((look M h).getD zp), missV (has M h)]) ∧ ∃ Ts', Gm W s t kb fb Ts' Tt M (askL A h) N B met V K bx w' :=
  (get_walk Ts s kb fb ⟨M, A⟩ h y H.st H.tsl hn).mono fun e w' ⟨he, h1, h2⟩ => ⟨he, _, H.prog h1 (fun j hj => hj.elim (fun hj => ⟨.inl hj, Nat.lt_of_lt_of_le (H.tsl j hj) h2.size⟩) fun hj => ⟨.inr hj.1, hj.2⟩) (foot_of h2)⟩
theorem Gm.drop (H : Gm W s t kb fb Ts Tt M A N B met V K bx y) (h : Hx) : Calls Tryd.prog 22 #[.pointer (some ⟨s, 0, none⟩), dv h] y fun e w' => e = .returned (missV (has M h)) ∧ Gm W s t kb fb Ts Tt (dropM M h) A N B met V K bx w' ∧ Kept (Foot Ts kb fb) y w' :=
  (drop_walk Ts s kb fb ⟨M, A⟩ h y H.st H.tsl).mono fun e w' ⟨he, h1, h2⟩ => ⟨he, H.prog h1 (fun j hj => ⟨.inl hj, Nat.lt_of_lt_of_le (H.tsl j hj) h2.size⟩) (foot_of h2), foot_of h2⟩
theorem Gm.read (H : Gm W s t kb fb Ts Tt M A N B met V K bx y) {d i n p : Int} {rt x : Hx} {f : List Hx → List Hx} (ho : Out N d i rt x n p f) (hMN : Alike M N) (hn : A.length + 17 < 1073741824) : Calls Tryd.prog 24 #[.pointer (some ⟨s, 0, none⟩), .int .i64 d, dv rt, .int .i64 i] y fun e w' => ∃ E, e = .returned (.tuple #[dv x, E]) ∧ Tells y.heap.size E n p w' ∧ ∃ Ts', Gm W s t kb fb Ts' Tt M (f A) N B met V K bx w' :=
  (read_out Ts s kb fb M N A d i rt x n p f y ho hMN H.st H.tsl hn).mono fun e w' ⟨E, he, ht, T', h1, h2, h3⟩ => ⟨E, he, ht, T', H.prog h1 h2 (foot_of h3)⟩
theorem Gm.write (H : Gm W s t kb fb Ts Tt M A N B met V K bx y) {d i n p : Int} {rt lf x : Hx} {f : List Hx → List Hx} {N' : List (Hx × Px)} {cl : Bool → Bool} (ho : OutW N d i rt lf x n p f N' cl) (hMN : Alike M N) (hn : A.length + 17 < 1073741824) : Calls Tryd.prog 26 #[.pointer (some ⟨s, 0, none⟩), .int .i64 d, dv rt, .int .i64 i, dv lf] y fun e w' => ∃ E, e = .returned (.tuple #[dv x, E]) ∧ Tells y.heap.size E n p w' ∧ ∃ Ts' M', Gm W s t kb fb Ts' Tt M' (f A) N B met V K bx w' ∧ Alike M' N' :=
  (write_out Ts s kb fb M N N' A d i rt lf x n p f cl y H.ktab ho hMN H.st H.tsl hn).mono fun e w' ⟨E, he, ht, T', M', h1, ha, h2, h3⟩ => ⟨E, he, ht, T', M', H.prog h1 h2 h3, ha⟩
theorem Gm.rwrite (H : Gm W s t kb fb Ts Tt M A N B met V K bx y) {d i n p : Int} {rt lf x : Hx} {f : List Hx → List Hx} {N' : List (Hx × Px)} {cl : Bool → Bool} (ho : OutW N d i rt lf x n p f N' cl) (hl : N.length + 17 < 1073741824) (hn : B.length + 17 < 1073741824) : Calls Tryd.prog 25 #[.pointer (some ⟨t, 0, none⟩), .int .i64 d, dv rt, .int .i64 i, dv lf, .bool true] y fun e w' => ∃ z, e = .returned (.tuple #[dv z, dv x, .int .i64 p, .int .i64 n]) ∧ ∃ Tt', Gm W s t kb fb Ts Tt' M A N' (f B) (cl met) V K bx w' ∧ Kept Tt y w' :=
  (rwrite_out Tt t N N' B met d i rt x lf n p f cl y ho H.ro H.ttl hl hn).mono fun e w' ⟨z, he, T', h1, h2, h3⟩ => ⟨z, he, T', H.refr h1 h2 h3, h3⟩
theorem Gm.len (H : Gm W s t kb fb Ts Tt M A N B met V K bx y) : Calls Tryd.prog 29 #[.pointer (some ⟨s, 0, none⟩)] y fun e w' => e = .returned (.int .i64 M.length) ∧ y = w' := len_walk Ts s kb fb ⟨M, A⟩ y H.st
theorem Gm.asked (H : Gm W s t kb fb Ts Tt M A N B met V K bx y) : Calls Tryd.prog 27 #[.pointer (some ⟨s, 0, none⟩)] y fun e w' => ∃ av, e = .returned av ∧ w'.ownsRow 0 39 32 av A.length (fl A) ∧ Gm W s t kb fb Ts Tt M [] N B met V K bx w' :=
  (asked_walk Ts s kb fb ⟨M, A⟩ y H.st).mono fun e w' ⟨av, he, h1, _, h2, h3⟩ => ⟨av, he, h1, H.prog h2 (fun j hj => ⟨.inl hj, Nat.lt_of_lt_of_le (H.tsl j hj) h3.size⟩) (foot_of (h3.mono fun j _ hj => by
    obtain ⟨pb, av, sv, ho⟩ := H.st.own
    exact hj ▸ ho.ts))⟩
/-- A copy, beside the old one. -/
theorem Gm.copy (H : Gm W s t kb fb Ts Tt M A N B met V K bx y) : Calls Tryd.prog 28 #[.pointer (some ⟨s, 0, none⟩)] y fun e w' => ∃ c, e = .returned (.pointer (some ⟨c, 0, none⟩)) ∧ ∃ T2 : Nat → Prop, IsSt w' T2 c kb fb ⟨M, []⟩ ∧ (∀ j, T2 j → y.heap.size ≤ j ∧ j < w'.heap.size) ∧ Gm W s t kb fb Ts Tt M A N B met V K bx w' :=
  (copy_walk Ts s kb fb ⟨M, A⟩ y H.st).mono fun e w' ⟨c, he, T2, h1, h2, h3⟩ => ⟨c, he, T2, h1, h2, H.next h3⟩
/-- The copy is gone on with. -/
theorem Gm.turn {c : Nat} {T2 : Nat → Prop} {M2 : List (Hx × Px)} {A2 : List Hx} (H : Gm W s t kb fb Ts Tt M A N B met V K bx y) (h : IsSt y T2 c kb fb ⟨M2, A2⟩) (h1 : ∀ j, T2 j → W.heap.size ≤ j ∧ j < y.heap.size ∧ ¬ Tt j ∧ V.ownBlock ≠ some j) : Gm W c t kb fb T2 Tt M2 A2 N B met V K [] y :=
  ⟨h, H.ro, H.row, fun j hj => ⟨(h1 j hj).1, (h1 j hj).2.1⟩, H.tt, fun j hj => (h1 j hj).2.2.1, H.k1, H.k2, fun j e => ⟨fun hj => (h1 j hj).2.2.2 e, (H.vs j e).2⟩, fun b hb => (by cases hb), H.below, H.kt, H.et, H.lo⟩
end
end Wt
end Go.Proofs.YtdmffnjbholkkaaDoor
namespace Go.Proofs.YtdmffnjbholkkaaDoor
open Go.RowKit
set_option linter.unusedVariables false
set_option linter.unusedSimpArgs false
section
variable {P : Program} {ops : Array Oper} {Q : Exit → Act → World → Prop} {S : World → Prop}
end
namespace Wt
open Kc Mk
theorem neqX (a : Hx) (w : World) : (binOp .neq 39 (dv a) (dv a)).run Tryd.prog w = .ok (.bool false) w := by
  unfold dv
  have h := run_equal_tab (P := Tryd.prog) w 9998 39 5 32 .u8 (by kernel_rfl) undU8 sizeU8 (fun i => Bv (a i)) (fun i => Bv (a i))
  rw [show ((List.range 32).all fun i => Bv (a i) == Bv (a i)) = true from by simp] at h
  rw [run_neq_struct]
  exact (congrArg (fun r => r.andThen fun b w' => Result.ok (Value.bool (!b)) w') h)
theorem exec_neqX {o : Oper} {ev : Operand → Value} {u : World} (x y : Operand) (yt : TypeId) (a : Hx) (ho : o.op = .binOp .neq 39 x y yt) (hx : ev x = dv a) (hy : ev y = dv a) : (execOp ev o).run Tryd.prog u = .ok (.value (.bool false)) u := by
  unfold execOp
  simp only [ho, hx, hy, Sem.run_bind, Sem.run_pure, Result.andThen_ok, guardN, neqX]
section
variable {ops : Array Oper} {rest : List Oper} {op : Oper} {a : Act} {w : World} {Q : Exit → Act → World → Prop}
end
section
variable {P : Program} {ops : Array Oper} {rest : List Oper} {o : Oper} {a : Act} {w : World} {Q : Exit → Act → World → Prop}
end
def kn (c : Bt) : Hx := fun i => if i = 0 then c else 0#8
def K0 : List Hx := [fun _ => 0#8, kn 1#8, kn 2#8, kn 3#8]
def v5 (a b c d e : Value) : Nat → Value
  | 0 => a
  | 1 => b
  | 2 => c
  | 3 => d
  | _ => e
/-- What the loop keeps. -/
def Lq (W : World) (t kb fb n z : Nat) (sv V : Value) (y : World) : Prop := ∃ s Ts Tt M A N met K, sv = .pointer (some ⟨s, 0, none⟩) ∧ Gm W s t kb fb Ts Tt M A N A met V K [] y ∧ Alike M N ∧ N.length ≤ 16 + 17 * n ∧ A.length ≤ 17 * n ∧ K.length ≤ 20 + n ∧ 0 < K.length ∧ z ≤ N.length
end Wt
end Go.Proofs.YtdmffnjbholkkaaDoor
