/-
  KeccakApart. Own work (written by genap.py).
-/
import Derived.Test.YtdmbmilfclllaaaDoorKpc
import Derived.Test.YtdmbmilfclllaaaDoorMm
namespace Go.Proofs.YtdmbmilfclllaaaDoor
open Go.RowKit
set_option linter.unusedVariables false
set_option linter.unusedSimpArgs false
namespace Kc
/-- TwoH hashers and two rows beside one another. -/
structure TwoH (W : World) (B q1 q2 : Nat) (V1 V2 : Value) (h1 l1 h2 l2 : List Bt) (y : World) : Prop where
  p1 : Pi W B q1 V1 h1 l1 y
  p2 : Pi W B q2 V2 h2 l2 y
  nq : q1 ≠ q2
  nV : ∀ k, V1.ownBlock = some k → V2.ownBlock ≠ some k
theorem TwoH.swap {W y : World} {B q1 q2 : Nat} {V1 V2 : Value} {h1 l1 h2 l2 : List Bt} (h : TwoH W B q1 q2 V1 V2 h1 l1 h2 l2 y) : TwoH W B q2 q1 V2 V1 h2 l2 h1 l1 y :=
  ⟨h.p2, h.p1, fun e => h.nq e.symm, fun k a b => h.nV k b a⟩
theorem TwoH.next {W y y' : World} {B q1 q2 : Nat} {V1 V2 : Value} {h1 l1 h2 l2 : List Bt} (h : TwoH W B q1 q2 V1 V2 h1 l1 h2 l2 y) (hb : Below y.heap.size y y') : TwoH W B q1 q2 V1 V2 h1 l1 h2 l2 y' :=
  ⟨h.p1.next hb, h.p2.next hb, h.nq, h.nV⟩
theorem Pi.drew {W y : World} {B q : Nat} {V : Value} {lh l : List Bt} (h : Pi W B q V lh l y) : Pi W B q V lh l y.drew := ⟨h.hh, h.all, h.below.drew, h.o1, h.o2, h.o3⟩
theorem TwoH.kept {S : Nat → Prop} {W y y' : World} {B q1 q2 : Nat} {V1 V2 : Value} {h1 l1 h2 l2 : List Bt} (h : TwoH W B q1 q2 V1 V2 h1 l1 h2 l2 y) (hk : Kept S y y') (hS : ∀ k, k < y.heap.size → ¬ S k) : TwoH W B q1 q2 V1 V2 h1 l1 h2 l2 y' :=
  ⟨h.p1.kept hk (hS _ h.p1.hh.lt) (fun k e => hS k (h.p1.all.lt k e).2) (fun k e => hS k (Nat.lt_of_lt_of_le e h.p1.below.size)),
   h.p2.kept hk (hS _ h.p2.hh.lt) (fun k e => hS k (h.p2.all.lt k e).2) (fun k e => hS k (Nat.lt_of_lt_of_le e h.p2.below.size)), h.nq, h.nV⟩
theorem TwoH.kept2 {S : Nat → Prop} {W y y' : World} {B q1 q2 : Nat} {V1 V2 : Value} {h1 l1 h2 l2 : List Bt} (h : TwoH W B q1 q2 V1 V2 h1 l1 h2 l2 y) (hk : Kept S y y') (a : ¬ S q1) (b : ¬ S q2) (c : ∀ k, V1.ownBlock = some k → ¬ S k) (d : ∀ k, V2.ownBlock = some k → ¬ S k) (e : ∀ k, k < W.heap.size → ¬ S k) : TwoH W B q1 q2 V1 V2 h1 l1 h2 l2 y' :=
  ⟨h.p1.kept hk a c e, h.p2.kept hk b d e, h.nq, h.nV⟩
theorem TwoH.add {W y y' : World} {B q1 q2 : Nat} {V1 V2 : Value} {h1 l1 h2 l2 r : List Bt} (h : TwoH W B q1 q2 V1 V2 h1 l1 h2 l2 y) (hH : IsH y' q1 r) (hk : Kept (· = q1) y y') : TwoH W B q1 q2 V1 V2 r l1 h2 l2 y' := by
  have hb : Below W.heap.size W y' := ((Kept.ofBelow (S := (· = q1)) h.p1.below).trans hk (fun _ _ h => h)).below (Nat.le_refl _) (fun k _ e => by rw [e]; exact h.p1.o1)
  refine ⟨⟨hH, hk.row h.p1.all (fun k e e2 => by have := (h.p1.all.lt k e).1; have := h.p1.o2; omega), hb, h.p1.o1, h.p1.o2, Nat.le_trans h.p1.o3 hk.size⟩, ?_, h.nq, h.nV⟩
  exact ⟨h.p2.hh.kept hk (fun e => h.nq e.symm), hk.row h.p2.all (fun k e e2 => by have := (h.p2.all.lt k e).1; have := h.p1.o2; omega), hb, h.p2.o1, h.p2.o2, Nat.le_trans h.p2.o3 hk.size⟩
theorem TwoH.grown {W y y' : World} {B q1 q2 : Nat} {V1 V2 V' : Value} {h1 l1 h2 l2 bs : List Bt} (h : TwoH W B q1 q2 V1 V2 h1 l1 h2 l2 y) (hown : y'.ownsRow B 5 1 V' (l1.length + bs.length) (l1.map bv ++ bs.map bv)) (hg : y.grownBy y' V1.ownBlock)
    (hat : ∀ k, V'.ownBlock = some k → V1.ownBlock = some k ∨ k = y.heap.size) : TwoH W B q1 q2 V' V2 h1 (l1 ++ bs) h2 l2 y' := by
  have hk : Kept (fun k => V1.ownBlock = some k) y y' := ⟨hg.os, hg.tape, hg.output, hg.size, fun k hk hn => hg.block k hk (fun e => hn e.symm)⟩
  have hlow : ∀ k, V1.ownBlock = some k → B ≤ k := fun k hk => (h.p1.all.lt k hk).1
  refine ⟨h.p1.grown hown hg, h.p2.kept hk (fun e => by have := hlow _ e; have := h.p2.o2; omega) (fun k e e2 => h.nV k e2 e) (fun k e e2 => by have := hlow _ e2; have := h.p1.o1; have := h.p1.o2; omega), h.nq, fun k e e2 => ?_⟩
  rcases hat k e with e3 | e3
  · exact h.nV k e3 e2
  · have := (h.p2.all.lt k e2).2; omega
theorem joined_more {ls : List Pc} {i : Nat} (h : ls.length ≤ i) : joined ls (i + 1) = joined ls i := by
  unfold joined; rw [List.take_of_length_le h, List.take_of_length_le (by omega)]
theorem piece_at {w : World} {A : Option Addr} {ls : List Pc} {i : Nat} (hL : IsPcs w A ls) (hi : i < ls.length) :
    ∃ (b o : Nat) (a : Option Addr) (c : Nat) (bs : List Bt), A = some ⟨b, o, none⟩ ∧ (∀ v, Below w.heap.size w v → v.cell? ⟨b, o + i, none⟩ = some (.slice a bs.length c)) ∧ (∀ v, Below w.heap.size w v → IsBs v a bs) ∧ (a = none → bs = [] ∧ c = 0) ∧ bs.length ≤ c ∧ c ≤ maxLen ∧ joined ls (i + 1) = joined ls i ++ bs ∧
      (∀ x, a = some x → 0 < bs.length → x.block < w.heap.size) := by
  obtain ⟨p, hpi⟩ : ∃ p, ls[i]? = some p := ⟨_, List.getElem?_eq_getElem hi⟩
  rcases hL with h0 | ⟨b, o, hA, hcell⟩
  · rw [h0] at hpi; simp at hpi
  obtain ⟨u, hu, hv, hbs, hbn, hbc, hbm⟩ := hcell i p hpi
  subst hv
  refine ⟨b, o, p.1, p.2.1, p.2.2, hA, fun v hv => keep1 hv hu, fun v hv => isBs_keep hbs (fun b o v _ h => keep1 hv h), hbn, hbc, hbm, joined_succ hpi, fun x hx h0 => ?_⟩
  rcases hbs with e | ⟨b, o, e, h⟩
  · rw [e] at h0; simp at h0
  · rw [hx] at e; injection e with e; subst e
    exact inHeap (h 0 h0)
set_option maxHeartbeats 4000000 in
set_option maxRecDepth 100000 in
theorem add_zero (q : Nat) (a : Option Addr) (cap : Nat) (w : World) :
    Calls Tryd.prog 14 #[.pointer (some ⟨q, 0, none⟩), .slice a 0 cap] w fun e w' => e = .returned .nilIface ∧ w = w' := by
  go_enter Tryd.func14, Tryd.ntmps14
  go_wp2_with fail
  go_loopw [1] (fun t y => t = .slice a 0 cap ∧ w = y) (fun t _ => slLen t)
  case atStart => exact ⟨rfl, rfl⟩
  case round =>
    obtain ⟨rfl, rfl⟩ := hrel
    go_wp2_with fail
    go_ret
    exact ⟨rfl, rfl⟩
theorem add_any (q : Nat) (l bs : List Bt) (a : Option Addr) (cap : Nat) (w : World) (ht : Laid.KTab w) (hH : IsH w q l) (hB : IsBs w a bs) (hab : ∀ x, a = some x → 0 < bs.length → x.block ≠ q) (hcap : bs.length ≤ cap) (hmax : cap ≤ maxLen) (hq : 0 ≠ q) :
    Calls Tryd.prog 14 #[.pointer (some ⟨q, 0, none⟩), .slice a bs.length cap] w fun e w' => e = .returned .nilIface ∧ IsH w' q (l ++ bs) ∧ Kept (· = q) w w' := by
  rcases Nat.eq_zero_or_pos bs.length with h0 | h0
  · obtain rfl := List.eq_nil_of_length_eq_zero h0
    refine (add_zero q a cap w).mono fun e w' ⟨h1, h2⟩ => ?_
    subst h2
    exact ⟨h1, by rw [List.append_nil]; exact hH, Kept.refl _ _⟩
  · exact add_walk permIs q l bs a cap w ht hH hB (fun x hx => hab x hx h0) hcap hmax hq
structure Pz (W : World) (B q1 q2 q5 q6 : Nat) (V1 V2 : Value) (a b : Option Addr) (la lb : List Bt) (y : World) : Prop where
  two : TwoH W B q1 q2 V1 V2 la la lb lb y
  t1 : IsTab y q5 27 32 fun i => bv (sum la i)
  t2 : IsTab y q6 27 32 fun i => bv (sum lb i)
  b1 : IsBs y a la
  b2 : IsBs y b lb
  lt1 : ∀ x, a = some x → x.block < y.heap.size
  lt2 : ∀ x, b = some x → x.block < y.heap.size
theorem Pz.next {W y y' : World} {B q1 q2 q5 q6 : Nat} {V1 V2 : Value} {a b : Option Addr} {la lb : List Bt} (h : Pz W B q1 q2 q5 q6 V1 V2 a b la lb y) (hb : Below y.heap.size y y') : Pz W B q1 q2 q5 q6 V1 V2 a b la lb y' :=
  ⟨h.two.next hb, h.t1.below hb, h.t2.below hb, isBs_keep h.b1 (fun _ _ _ _ => keep1 hb), isBs_keep h.b2 (fun _ _ _ _ => keep1 hb), fun x hx => Nat.lt_of_lt_of_le (h.lt1 x hx) hb.size, fun x hx => Nat.lt_of_lt_of_le (h.lt2 x hx) hb.size⟩
theorem Pz.drew {W y : World} {B q1 q2 q5 q6 : Nat} {V1 V2 : Value} {a b : Option Addr} {la lb : List Bt} (h : Pz W B q1 q2 q5 q6 V1 V2 a b la lb y) : Pz W B q1 q2 q5 q6 V1 V2 a b la lb y.drew :=
  ⟨⟨h.two.p1.drew, h.two.p2.drew, h.two.nq, h.two.nV⟩, h.t1, h.t2, h.b1, h.b2, h.lt1, h.lt2⟩
theorem pz_of {W y : World} {B q1 q2 q5 q6 : Nat} {V1 V2 : Value} {la lb : List Bt} (h : TwoH W B q1 q2 V1 V2 la la lb lb y) (t1 : IsTab y q5 27 32 fun i => bv (sum la i)) (t2 : IsTab y q6 27 32 fun i => bv (sum lb i)) :
    ∃ (aa : Option Addr) (ca : Nat) (ab : Option Addr) (cb : Nat), V1 = .slice aa la.length ca ∧ V2 = .slice ab lb.length cb ∧ (la.length ≤ ca ∧ ca ≤ maxLen) ∧ (lb.length ≤ cb ∧ cb ≤ maxLen) ∧ Pz W B q1 q2 q5 q6 V1 V2 aa ab la lb y := by
  obtain ⟨aa, ca, e1, b1, _, l1, m1, r1⟩ := slice_of h.p1.all
  obtain ⟨ab, cb, e2, b2, _, l2, m2, r2⟩ := slice_of h.p2.all
  exact ⟨aa, ca, ab, cb, e1, e2, ⟨l1, m1⟩, ⟨l2, m2⟩, h, t1, t2, b1, b2, r1, r2⟩
end Kc
end Go.Proofs.YtdmbmilfclllaaaDoor
