/-
  witness.New. Written by genZh.py. Own work.
-/
import Derived.Test.YtdmffnjbholkkaaDoorZg
import Derived.Test.YtdmffnjbholkkaaDoorZc
import Derived.Test.YtdmffnjbholkkaaDoorMn
namespace Go.Proofs.YtdmffnjbholkkaaDoor
open Go.RowKit
set_option linter.unusedVariables false
set_option linter.unusedSimpArgs false
namespace Wt
open Kc Mk
/-- The nought of a height, twice. -/
def zz (k : Nat) : Px := jn (zero k) (zero k)
/-- The preimages of the noughts below a height. -/
def zs : Nat → List (Hx × Px)
  | 0 => []
  | k + 1 => putM (zs k) (hs (zz k)) (zz k)
def nw : Sto := ⟨zs 16, []⟩
/-- What New's loop keeps. -/
structure NwR (W : World) (s k : Nat) (y : World) : Prop where
  below : Below W.heap.size W y
  ss : W.heap.size ≤ s ∧ s < y.heap.size
  kt : Laid.KTab y
  lo : lowB ≤ W.heap.size
  st : (k = 0 ∧ St0 y s) ∨ (0 < k ∧ ∃ T kb fb, IsSt y T s kb fb ⟨zs k, []⟩ ∧ (∀ j, T j → W.heap.size ≤ j ∧ j < y.heap.size) ∧ W.heap.size ≤ kb ∧ W.heap.size ≤ fb)
theorem NwR.next {W y y' : World} {s k : Nat} (h : NwR W s k y) (hb : Below y.heap.size y y') : NwR W s k y' :=
  ⟨bl h.below hb, ⟨h.ss.1, Nat.lt_of_lt_of_le h.ss.2 hb.size⟩, ktab_below h.kt hb, h.lo, h.st.imp (fun ⟨e, h0⟩ => ⟨e, h0.kept (kept_none hb) id⟩) fun ⟨e, T, kb, fb, h1, h2, h3⟩ => ⟨e, T, kb, fb, h1.below hb, fun j hj => ⟨(h2 j hj).1, Nat.lt_of_lt_of_le (h2 j hj).2 hb.size⟩, h3⟩⟩
theorem NwR.drew {W y : World} {s k : Nat} (h : NwR W s k y) : NwR W s k y.drew := h.next (Below.refl _ _).drew
theorem below_of {W y y' : World} {U : Nat → Prop} (h : Below W.heap.size W y) (hk : Kept U y y') (hU : ∀ j, j < y.heap.size → U j → W.heap.size ≤ j) : Below W.heap.size W y' := h.trans (hk.below h.size hU)
theorem addN_walk {W y : World} {s k : Nat} (h : NwR W s k y) (v : Value) (hv : v = pv (zz k)) :
    Calls Tryd.prog 17 #[.pointer (some ⟨s, 0, none⟩), v] y fun e w' => (∃ r, e = .returned r) ∧ NwR W s (k + 1) w' := by
  subst hv
  have hlo : lowB ≤ s := Nat.le_trans h.lo h.ss.1
  rcases h.st with ⟨rfl, h0⟩ | ⟨hk, T, kb, fb, h1, h2, h3⟩
  · refine (add_first s (zz 0) y h.kt h0 hlo).mono ?_
    rintro e w' ⟨he, pb, kb, fb, h1, h2, h3⟩
    have hb : Below W.heap.size W w' := below_of h.below h3 fun j _ hj => by rw [hj]; exact h.ss.1
    have hsz := h.below.size
    obtain ⟨pb', av, sv, ho⟩ := h1.own
    refine ⟨⟨_, he⟩, hb, ⟨h.ss.1, ho.box.lt⟩, ktab_kept h.kt h3 (fun j hj => .inr (by rw [hj]; exact hlo)), h.lo, .inr ⟨by omega, _, kb, fb, h1, fun j hj => ?_, by omega, by omega⟩⟩
    rcases hj with rfl | rfl
    · exact ⟨h.ss.1, ho.box.lt⟩
    · exact ⟨by omega, h2.2.2.2⟩
  · refine (add_walk T s kb fb ⟨zs k, []⟩ (zz k) y h.kt h1 fun j hj => (h2 j hj).2).mono ?_
    rintro e w' ⟨he, h4, h5⟩
    have hU : ∀ j, Foot T kb fb j → W.heap.size ≤ j := fun j hj => hj.elim (fun hj => (h2 j hj).1) fun hj => hj.elim (fun e => e ▸ h3.1) fun e => e ▸ h3.2
    exact ⟨⟨_, he⟩, below_of h.below h5 fun j _ hj => hU j hj, ⟨h.ss.1, Nat.lt_of_lt_of_le h.ss.2 h5.size⟩, ktab_kept h.kt h5 (fun j hj => .inr (Nat.le_trans h.lo (hU j hj))), h.lo, .inr ⟨by omega, T, kb, fb, h4, fun j hj => ⟨(h2 j hj).1, Nat.lt_of_lt_of_le (h2 j hj).2 h5.size⟩, h3⟩⟩
set_option maxHeartbeats 4000000 in
set_option maxRecDepth 100000 in
theorem New_walk (w : World) (ht : Laid.KTab w) (hlo : lowB ≤ w.heap.size) :
    Calls Tryd.prog 13 #[] w fun e w' => ∃ s T kb fb, e = .returned (.pointer (some ⟨s, 0, none⟩)) ∧ IsSt w' T s kb fb nw ∧ Below w.heap.size w w' ∧ (∀ j, Foot T kb fb j → w.heap.size ≤ j) ∧ (∀ j, T j → j < w'.heap.size) ∧ Laid.KTab w' := by
  have H0 : Hid (NwR w w.heap.size 0 (w.alloc (.cells #[.map none, .slice none 0 0, .map none, .pointer none] 118))) := Lib.hid
    ⟨(Below.refl _ _).alloc (Nat.le_refl _) _, ⟨Nat.le_refl _, by simp⟩, ktab_below ht ((Below.refl _ _).alloc (Nat.le_refl _) _), hlo, .inl ⟨rfl, Box4.new w _ _ _ _ _⟩⟩
  clear ht hlo
  have z2 := zeroHash
  generalize hz : (tab 32 fun _ => bv 0#8) = zh at *
  have HZ : Hid (zh.size = 32) := Lib.hid (by rw [← hz, tab_size])
  clear hz
  go_enter Tryd.func13, Tryd.ntmps13
  go_upto_region 3 with (fail)
  have HSS : Hid (lowB ≤ w.heap.size) := Lib.hid H0.out.lo
  generalize w.alloc (.cells #[.map none, .slice none 0 0, .map none, .pointer none] 118) = y0 at *
  generalize hs : w.heap.size = s at *
  have HS := Lib.hid hs
  clear hs
  go_loopw [7] (fun t y => ∃ k : Nat, k ≤ 16 ∧ t = .int .i64 k ∧ Hid (NwR w s k y)) (fun t _ => 16 - (intOf t).toNat)
  case atStart => exact ⟨0, Nat.zero_le _, rfl, H0⟩
  case round =>
    obtain ⟨k, hk, rfl, hp⟩ := hrel
    have HP := Lib.hid hp.out
    clear hp H0
    by_cases hlt : (k : Int) < 16
    · have hw1 : wrap64 ((k : Int) + 1) = ((k + 1 : Nat) : Int) := by unfold wrap64; omega
      have HW := Lib.hid (And.intro hw1 hk)
      have HZW := Lib.hid (zero_ok k (by omega) wr HP.out.kt)
      clear hw1 hk
      go_upto_region 6 with (first
        | (go_at_call 31; (with_reducible refine HZW.out.mono ?_); rintro e y1 ⟨he, hb⟩; obtain rfl : e = _ := he; have HB1 := Lib.hid hb; clear hb)
        | ((with_reducible refine wpList_store_row (P := Tryd.prog) (w := y1.alloc (.cells zh 39)) ?_ 39 (.tmp 3) (.tmp 13) ?_ y1.heap.size (tab 32 fun i => bv (zero k i)) ?_ ?_ 39 zh (heap_alloc_last y1 _) (infH _) ?_ (one_bv _ _) ?_); (· exact rfl); (· exact rfl); (· exact rfl); (· exact rfl); (· rw [HZ.out, tab_size]); rw [World.setRow_alloc_new]; simp only [Act.put]))
      have HP2 : Hid (NwR w s k (y1.alloc (.cells (tab 32 fun i => bv (zero k i)) 39))) := Lib.hid ((HP.out.next HB1.out).next ((Below.refl _ _).alloc (Nat.le_refl _) _))
      have HL := Lib.hid (loadHb (IsTab.new y1 39 32 fun i => bv (zero k i)))
      clear HP HB1 HZW
      generalize y1.alloc (.cells (tab 32 fun i => bv (zero k i)) 39) = y2 at *
      generalize y1.heap.size = q at *
      have hj := join_walk (zero k) (zero k) y2
      unfold dv at hj
      have HJ := Lib.hid hj
      clear hj
      go_upto_region 7 with (first
        | ((with_reducible refine wpList_loadE (P := Tryd.prog) (w := y2) (ty := 39) (x := .tmp 3) (p := .pointer (some ⟨q, 0, none⟩)) (v := .agg (tab 32 fun i => bv (zero k i))) ?_ ?_ ?_ HL.out ?_); (· exact rfl); (· exact rfl); (· exact rfl))
        | (go_at_call 47; (with_reducible refine HJ.out.mono ?_); rintro e y3 ⟨he, hb⟩; obtain rfl : e = _ := he; have HP3 := Lib.hid (addN_walk (HP2.out.next hb) (pv (jn (zero k) (zero k))) rfl); clear hb)
        | (go_at_call 17; (with_reducible refine HP3.out.mono ?_); rintro e y4 ⟨⟨r, he⟩, hp4⟩; obtain rfl : e = _ := he; have HP4 := Lib.hid hp4; clear hp4))
      have hw1 := HW.out.1
      go_wp2_with (fail)
      go_roundw
      case rel => exact ⟨k + 1, by have := HW.out; omega, by go_num, HP4⟩
      case measure => simp [intOf]; omega
    · obtain rfl : k = 16 := by omega
      go_wp2_with (fail)
      rcases HP.out.st with ⟨h, _⟩ | ⟨_, T, kb, fb, h1, h2, h3⟩
      · cases h
      · refine bodyPost_ret (v := .pointer (some ⟨s, 0, none⟩)) (by simp [results, Tryd.results13, go_sem]) rfl ?_
        exact ⟨s, rfl, T, kb, fb, h1, HP.out.below, fun j hj => by
          rcases hj with hj | hj | hj
          · exact (h2 j hj).1
          · rw [hj]; exact h3.1
          · rw [hj]; exact h3.2, fun j hj => (h2 j hj).2, HP.out.kt⟩
end Wt
end Go.Proofs.YtdmffnjbholkkaaDoor
