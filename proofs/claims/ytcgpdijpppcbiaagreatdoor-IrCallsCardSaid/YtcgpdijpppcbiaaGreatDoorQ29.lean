/- Merged of Uh Est Evw Ewc. Own work. -/
import Derived.Test.YtcgpdijpppcbiaaGreatDoorQ28
import Derived.Test.YtcgpdijpppcbiaaGreatDoorQ23
import Derived.Test.YtcgpdijpppcbiaaGreatDoorQ20
import Derived.Test.YtcgpdijpppcbiaaGreatDoorQ01
import Derived.Laws.Tables
namespace Go.Proofs.YtcgpdijpppcbiaaGreatDoor
open Go.RowKit
set_option linter.unusedVariables false
set_option linter.unusedSimpArgs false
namespace Wt
open Kc Mk
theorem zs_len' (k : Nat) (hk : k ≤ 16) : (zs k).length = k := by rw [zs_eq k hk]; simp
theorem kf_zs (k i : Nat) (hk : k ≤ 16) (hi : i < k) : kf (zs k) i = zero (i + 1) := by
  rw [zs_eq k hk]
  unfold kf
  simp [hi]
theorem map_range_succ {α : Type} (f : Nat → α) (k : Nat) : (List.range (k + 1)).map f = (List.range k).map f ++ [f k] := by rw [List.range_succ, List.map_append]; rfl
theorem zs_succ0 (k : Nat) (hk : k < 16) : zs (k + 1) = zs k ++ [(zero (k + 1), zz k)] := by
  refine (zs_eq (k + 1) (by omega)).trans ?_
  refine (map_range_succ _ k).trans ?_
  exact congrArg (fun l => l ++ _) (zs_eq k (by omega)).symm
theorem zs_succ (k : Nat) (hk : k < 16) : zs (k + 1) = zs k ++ [(hs (zz k), zz k)] := by
  rw [hs_zz]
  exact zs_succ0 k hk
theorem buildR0 (w : World) : (Instr.build 107 #[]).run Tryz.prog w = .ok (.agg #[.slice none 0 0, .slice none 0 0, .slice none 0 0, .bool false]) w := by kernel_rfl
theorem row_ld {w : World} {n c g j : Nat} {f : Nat → Hx} (h : w.ownsRow 0 74 32 (.slice (some ⟨g, 0, none⟩) n c) n (flat n f)) (hj : j < n) : (Instr.loadAt 74 (.pointer (some ⟨g, 32 * j, none⟩))).run Tryz.prog w = .ok (.agg (tab 32 fun i => bv (f j i))) w := by
  obtain ⟨a, c', hv, hld⟩ := row_hx h
  obtain ⟨h1, h2, h3⟩ := Value.slice.inj hv
  subst h1
  obtain ⟨g', hg, hl⟩ := hld j hj
  obtain rfl : g = g' := by simpa using hg
  exact hl w (Below.refl _ _)
/-- What New's loop keeps. -/
structure Rn (W : World) (r k : Nat) (V : Value) (y : World) : Prop where
  st : ∃ T : Nat → Prop, IsR y T r ⟨zs k, []⟩ false ∧ ∀ j, T j → W.heap.size ≤ j ∧ j < y.heap.size ∧ ∀ q, V.ownBlock = some q → q ≠ j
  row : y.ownsRow 0 74 32 V 17 (flat 17 zero)
  below : Below W.heap.size W y
theorem Rn.next {W y y' : World} {r k : Nat} {V : Value} (h : Rn W r k V y) (hb : Below y.heap.size y y') : Rn W r k V y' := by
  obtain ⟨⟨T, h1, h2⟩, h3, h4⟩ := h
  exact ⟨⟨T, h1.below hb, fun j hj => ⟨(h2 j hj).1, Nat.lt_of_lt_of_le (h2 j hj).2.1 hb.size, (h2 j hj).2.2⟩⟩, (Kept.ofBelow (S := fun _ => False) hb).row h3 (fun _ _ h => h), bl h4 hb⟩
theorem Rn.add {W y : World} {r k : Nat} {V : Value} (h : Rn W r k V y) (hk : k < 16) : Calls Tryz.prog 31 #[.pointer (some ⟨r, 0, none⟩), pv (zz k)] y fun e w' => (∃ v, e = .returned v) ∧ Rn W r (k + 1) V w' := by
  obtain ⟨⟨T, h1, h2⟩, h3, h4⟩ := h
  refine (radd_new T r ⟨zs k, []⟩ false (zz k) y h1 (fun j hj => (h2 j hj).2.1) (by show (zs k).length < _; rw [zs_len' k (by omega)]; omega) (fun i hi => ?_) ?_).mono ?_
  · have hi : i < (zs k).length := hi
    rw [zs_len' k (by omega)] at hi
    show key (kf (zs k) i) ≠ _
    rw [kf_zs k i (by omega) hi, hs_zz]
    exact zero_ne (by omega) (by omega) (by omega)
  · show Apart (zs k ++ [(hs (zz k), zz k)])
    rw [← zs_succ k hk]
    exact zs_apart (k + 1)
  · rintro e w' ⟨he, T', c1, c2, c3⟩
    have hz := c3.size
    have hw := h4.size
    have e1 : (⟨zs k ++ [(hs (zz k), zz k)], []⟩ : Sto) = ⟨zs (k + 1), []⟩ := by rw [zs_succ k hk]
    refine ⟨⟨_, he⟩, ⟨T', e1 ▸ c1, fun j hj => ?_⟩, c3.row h3 fun q e ht => (h2 q ht).2.2 q e rfl, below_of h4 c3 fun j _ hj => (h2 j hj).1⟩
    rcases (c2 j hj).1 with h9 | h9
    · exact ⟨(h2 j h9).1, (c2 j hj).2, (h2 j h9).2.2⟩
    · exact ⟨by omega, (c2 j hj).2, fun q e eq => by have := own_lt h3 e; omega⟩
set_option maxHeartbeats 4000000 in
set_option maxRecDepth 100000 in
theorem rnew_walk (w : World) : Calls Tryz.prog 29 #[] w fun e w' => ∃ r, e = .returned (.pointer (some ⟨r, 0, none⟩)) ∧ ∃ T : Nat → Prop, IsR w' T r ⟨zs 16, []⟩ false ∧ (∀ j, T j → w.heap.size ≤ j ∧ j < w'.heap.size) ∧ Below w.heap.size w w' := by
  have HBR := Lib.hid (buildR0 w)
  have HR0 : Hid (IsR (w.alloc (.cells #[.slice none 0 0, .slice none 0 0, .slice none 0 0, .bool false] 107)) (fun j => j = w.heap.size) w.heap.size ⟨zs 0, []⟩ false) := Lib.hid ⟨_, _, _, Box4.new w _ _ _ _ _, World.ownsRow_nil _ _ _ _, World.ownsRow_nil _ _ _ _, World.ownsRow_nil _ _ _ _, List.Pairwise.nil, rfl, fun k e => (by cases e), fun k e => (by cases e), fun k e => (by cases e)⟩
  have HZR := Lib.hid (zeros_walk (w.alloc (.cells #[.slice none 0 0, .slice none 0 0, .slice none 0 0, .bool false] 107)))
  have HBA := Lib.hid (ba w (.cells #[.slice none 0 0, .slice none 0 0, .slice none 0 0, .bool false] 107))
  go_enter Tryz.func29, Tryz.ntmps29
  go_upto_region 3 with (first
    | ((with_reducible refine Wt.wpList_buildM (P := Tryz.prog) (w := w) ?_ 107 ?_ (.agg #[.slice none 0 0, .slice none 0 0, .slice none 0 0, .bool false]) HBR.out ?_); (· exact rfl); (· exact rfl))
    | (go_at_call 48; (with_reducible refine HZR.out.mono ?_); rintro e y1 ⟨V, he, hrow, hb⟩; obtain rfl : e = _ := he; have H1 := Lib.hid (And.intro hrow hb); clear hrow hb HZR))
  have H0 : Hid (Rn w w.heap.size 0 V y1) := by
    have hz := HBA.out.size
    have hlt : w.heap.size < (w.alloc (.cells #[.slice none 0 0, .slice none 0 0, .slice none 0 0, .bool false] 107)).heap.size := by simp
    have hz2 := H1.out.2.size
    exact Lib.hid ⟨⟨_, HR0.out.below H1.out.2, fun j hj => ⟨by omega, by omega, fun q e => by have := owns_base H1.out.1 e; omega⟩⟩, row_base H1.out.1 (Nat.zero_le _), bl HBA.out H1.out.2⟩
  clear HBR HR0 HBA H1
  generalize w.heap.size = r at *
  go_wp2_with (fail)
  go_loopw [3] (fun ti y => ∃ k : Nat, k ≤ 16 ∧ ti = .int .i64 k ∧ Hid (Rn w r k V y)) (fun ti _ => 16 - (intOf ti).toNat)
  case atStart => exact ⟨0, Nat.zero_le _, rfl, H0⟩
  case round =>
    obtain ⟨k, hk, rfl, hp⟩ := hrel
    have HP := Lib.hid hp.out
    clear hp H0
    by_cases hlt : (k : Int) < 16
    · have HI : Hid (k < 16 ∧ wrap64 ((k : Int) + 1) = ((k + 1 : Nat) : Int)) := Lib.hid ⟨by omega, by unfold wrap64; omega⟩
      obtain ⟨a, c, hv, hld⟩ := row_hx HP.out.row
      obtain ⟨g, hg, hlo⟩ := hld k (by omega)
      obtain ⟨o, ho⟩ : ∃ o, 32 * k = o := ⟨_, rfl⟩
      rw [ho] at hlo
      have hko : k * 32 = o := by omega
      subst hg
      have HLO := Lib.hid hlo
      have HV := Lib.hid hv
      have hk17 : (k : Int) < 17 := by omega
      have HKO := Lib.hid (And.intro hk17 hko)
      have HOO := Lib.hid ho
      have HK17 : Hid (k < 17) := Lib.hid (by omega)
      clear hk hlo hld ho hko hk17
      go_upto_region 6 with (fail)
      have HD := Lib.hid (HP.out.next (Below.refl _ _).drew)
      have HLW : Hid (∀ y : World, y.ownsRow 0 74 32 (.slice (some ⟨g, 0, none⟩) 17 c) 17 (flat 17 zero) → (Instr.loadAt 74 (.pointer (some ⟨g, o, none⟩))).run Tryz.prog y = .ok (.agg (tab 32 fun i => bv (zero k i))) y) := Lib.hid fun y hy => by rw [← HOO.out]; exact row_ld hy HK17.out
      clear HP HLO
      rw [HV.out]
      refine wp_region_og (fun z : World => z.ownsRow 0 74 32 (.slice (some ⟨g, 0, none⟩) 17 c) 17 (flat 17 zero)) (.take 0 (.take 1 (.take 2 (.take 3 (.take 4 (.take 5 (.take 6 (.take 7 (.take 8 (.one 9 (.one 10 .done))))))))))) (by kernel_rfl) (by kernel_rfl) (HV.out ▸ HD.out.row) ?_
      generalize wr.drew = y2 at *
      refine og_tk (some 11) (.pointer (some ⟨r, 0, none⟩)) rfl rfl (by go_simp) (fun _ _ => by simp [execOp, go_sem]) ?_
      simp only [Act.put, pS]
      refine og_tk (some 12) (.slice (some ⟨g, 0, none⟩) 17 c) rfl rfl (by go_simp) (fun _ _ => by simp [execOp, go_sem]) ?_
      simp only [Act.put, pS]
      refine og_tk (some 13) (.int .i64 k) rfl rfl (by go_simp) (fun _ _ => by simp [execOp, go_sem]) ?_
      simp only [Act.put, pS]
      refine og_tk (some 14) (.pointer (some ⟨g, o, none⟩)) rfl rfl (by go_simp) (fun y hy => by have h1 := HKO.out.1; have h2 := HKO.out.2; simp [execOp, go_sem, h1, h2, Result.andThen, Tryz.underlying105]) ?_
      simp only [Act.put, pS]
      refine og_ld (some 15) 74 (.tmp 14) (.pointer (some ⟨g, o, none⟩)) (.agg (tab 32 fun i => bv (zero k i))) rfl rfl (by go_simp) rfl rfl (fun y hy => HLW.out y hy) ?_
      simp only [Act.put, pS]
      refine og_tk (some 16) (.slice (some ⟨g, 0, none⟩) 17 c) rfl rfl (by go_simp) (fun _ _ => by simp [execOp, go_sem]) ?_
      simp only [Act.put, pS]
      refine og_tk (some 17) (.int .i64 k) rfl rfl (by go_simp) (fun _ _ => by simp [execOp, go_sem]) ?_
      simp only [Act.put, pS]
      refine og_tk (some 18) (.pointer (some ⟨g, o, none⟩)) rfl rfl (by go_simp) (fun y hy => by have h1 := HKO.out.1; have h2 := HKO.out.2; simp [execOp, go_sem, h1, h2, Result.andThen, Tryz.underlying105]) ?_
      simp only [Act.put, pS]
      refine og_ld (some 19) 74 (.tmp 18) (.pointer (some ⟨g, o, none⟩)) (.agg (tab 32 fun i => bv (zero k i))) rfl rfl (by go_simp) rfl rfl (fun y hy => HLW.out y hy) ?_
      simp only [Act.put, pS]
      have hj := joined_walk (zero k) (zero k) y2
      unfold dv at hj
      have HJ := Lib.hid hj
      clear hj
      refine og_f rfl (by go_simp) fun K hK => ?_
      go_simp
      refine HJ.out.mono ?_
      rintro e y3 ⟨he, hb⟩
      obtain rfl : e = _ := he
      have HB3 := Lib.hid hb
      have HP3 := Lib.hid ((HD.out.next hb).add HI.out.1)
      refine hK _ _ (HV.out ▸ (HD.out.next hb).row) ?_
      clear hK K hb HJ
      try simp only [Act.put, pS]
      have hp3 := HP3.out
      unfold pv zz at hp3
      have HC := Lib.hid hp3
      clear hp3 HP3
      refine og_f rfl (by go_simp) fun K hK => ?_
      go_simp
      refine HC.out.mono ?_
      rintro e y4 ⟨⟨v, he⟩, hn⟩
      obtain rfl : e = _ := he
      have HN := Lib.hid hn
      refine hK _ _ (HV.out ▸ hn.row) ?_
      clear hK K hn HC
      refine og_done (NoPanic.normal ?_)
      have hw1 := HI.out.2
      rw [← HV.out]
      go_wp2_with (fail)
      go_roundw
      case rel => exact ⟨k + 1, HI.out.1, by go_num, HN⟩
      case measure => have := HI.out.1; simp [intOf]; omega
    · obtain rfl : k = 16 := by omega
      clear hk hlt
      go_wp2_with (fail)
      obtain ⟨⟨T, h1, h2⟩, h3, h4⟩ := HP.out
      exact bodyPost_ret (v := .pointer (some ⟨r, 0, none⟩)) (by simp [results, Tryz.results29, go_sem]) rfl ⟨r, rfl, T, h1, fun j hj => ⟨(h2 j hj).1, (h2 j hj).2.1⟩, h4⟩
end Wt
end Go.Proofs.YtcgpdijpppcbiaaGreatDoor
namespace Go.Proofs.YtcgpdijpppcbiaaGreatDoor
open Go.RowKit
set_option linter.unusedVariables false
set_option linter.unusedSimpArgs false
namespace Vm
open Kc Mk Wt
set_option maxHeartbeats 1000000 in
set_option maxRecDepth 100000 in
theorem stores_nil (w : World) (ht : Laid.KTab w) (hlo : Wt.lowB ≤ w.heap.size) :
    Calls Tryz.prog 15 #[.slice none 0 0] w fun e w' => ∃ s r T kb fb, e = .returned (.tuple #[.pointer (some ⟨s, 0, none⟩), .pointer (some ⟨r, 0, none⟩)]) ∧ IsSt w' T s kb fb nw ∧ Below w.heap.size w w' ∧ (∀ j, Foot T kb fb j → w.heap.size ≤ j) ∧ (∀ j, T j → j < w'.heap.size) := by
  have HN := Lib.hid (Wt.New_walk w ht hlo)
  clear ht hlo
  go_enter Tryz.func15, Tryz.ntmps15
  go_upto_region 4 with (first
    | (go_at_call 28; (with_reducible refine HN.out.mono ?_); rintro e y1 ⟨s, T, kb, fb, he, hst, hb, hF, hT, hk⟩; obtain rfl : e = _ := he; have H1 := Lib.hid (And.intro hst (And.intro hb (And.intro hF hT))); have HR := Lib.hid (Wt.rnew_walk y1); clear hst hb hF hT hk HN)
    | (go_at_call 29; (with_reducible refine HR.out.mono ?_); rintro e y2 ⟨r, he, T2, hr, hT2, hb⟩; obtain rfl : e = _ := he; have H2 := Lib.hid hb; clear hr hT2 hb HR))
  have H3 : Hid (IsSt y2 T s kb fb nw ∧ Below w.heap.size w y2 ∧ (∀ j, Foot T kb fb j → w.heap.size ≤ j) ∧ (∀ j, T j → j < y2.heap.size)) := Lib.hid ⟨H1.out.1.below H2.out, bl H1.out.2.1 H2.out, H1.out.2.2.1, fun j hj => Nat.lt_of_lt_of_le (H1.out.2.2.2 j hj) H2.out.size⟩
  clear H1 H2
  go_upto_region 5 with (fail)
  go_loopw [15] (fun t y => t = .int .i64 0 ∧ y = y2) (fun _ _ => 0)
  case atStart => exact ⟨rfl, rfl⟩
  case round =>
    obtain ⟨rfl, rfl⟩ := hrel
    go_wp2_with (fail)
    exact bodyPost_ret (v := .tuple #[.pointer (some ⟨s, 0, none⟩), .pointer (some ⟨r, 0, none⟩)]) (by simp [results, Tryz.results15, go_sem]) rfl ⟨s, r, T, kb, fb, rfl, H3.out.1, H3.out.2.1, H3.out.2.2.1, H3.out.2.2.2⟩
end Vm
end Go.Proofs.YtcgpdijpppcbiaaGreatDoor
namespace Go.Proofs.YtcgpdijpppcbiaaGreatDoor
open Go.RowKit
set_option linter.unusedVariables false
set_option linter.unusedSimpArgs false
namespace Ir
open Kc
/-- What was laid so far stands. -/
structure Ac (W : World) (L : List (Value × Ef)) (M : List (Value × Sf)) (N : List (Value × List Fn)) (C : List (Nat × Nat × Value)) (y : World) : Prop where
  kp : Kept (fun _ => False) W y
  e : ∀ p ∈ L, SlE y (fun _ => True) p.1 p.2
  s : ∀ p ∈ M, SlS y (fun _ => True) p.1 p.2
  f : ∀ p ∈ N, SlP y (fun _ => True) p.1 p.2
  c : ∀ p ∈ C, y.cell? ⟨p.1, p.2.1, none⟩ = some p.2.2
section
variable {W y y' : World} {L : List (Value × Ef)} {M : List (Value × Sf)} {N : List (Value × List Fn)} {C : List (Nat × Nat × Value)}
theorem Ac.start (W : World) : Ac W [] [] [] [] W := ⟨Kept.refl _ _, fun _ h => by (cases h), fun _ h => by (cases h), fun _ h => by (cases h), fun _ h => by (cases h)⟩
theorem Ac.next (h : Ac W L M N C y) (hk : Kept (fun _ => False) y y') : Ac W L M N C y' :=
  ⟨h.kp.trans hk fun _ _ e => e, fun p hp => (h.e p hp).kept hk fun _ _ => id, fun p hp => (h.s p hp).kept hk fun _ _ => id, fun p hp => (h.f p hp).kept hk fun _ _ => id, fun p hp => hk.cell id (h.c p hp)⟩
theorem Ac.addE (h : Ac W L M N C y) (hk : Kept (fun _ => False) y y') {V : Value} {x : Ef} (hx : SlE y' (fun _ => True) V x) : Ac W ((V, x) :: L) M N C y' :=
  ⟨(h.next hk).kp, fun p hp => by rcases List.mem_cons.1 hp with e | hp; (rw [e]; exact hx); exact (h.next hk).e p hp, (h.next hk).s, (h.next hk).f, (h.next hk).c⟩
theorem Ac.addS (h : Ac W L M N C y) (hk : Kept (fun _ => False) y y') {V : Value} {x : Sf} (hx : SlS y' (fun _ => True) V x) : Ac W L ((V, x) :: M) N C y' :=
  ⟨(h.next hk).kp, (h.next hk).e, fun p hp => by rcases List.mem_cons.1 hp with e | hp; (rw [e]; exact hx); exact (h.next hk).s p hp, (h.next hk).f, (h.next hk).c⟩
theorem Ac.addF (h : Ac W L M N C y) (hk : Kept (fun _ => False) y y') {V : Value} {x : List Fn} (hx : SlP y' (fun _ => True) V x) : Ac W L M ((V, x) :: N) C y' :=
  ⟨(h.next hk).kp, (h.next hk).e, (h.next hk).s, fun p hp => by rcases List.mem_cons.1 hp with e | hp; (rw [e]; exact hx); exact (h.next hk).f p hp, (h.next hk).c⟩
theorem Ac.addR (h : Ac W L M N C y) (v0 v1 v2 : Value) (T : Nat) : Ac W L M N ((y.heap.size, 0, v0) :: (y.heap.size, 1, v1) :: (y.heap.size, 2, v2) :: C) (y.alloc (.cells #[v0, v1, v2] T)) :=
  ⟨(h.next (kept_alloc9 y _)).kp, (h.next (kept_alloc9 y _)).e, (h.next (kept_alloc9 y _)).s, (h.next (kept_alloc9 y _)).f, fun p hp => by
    rcases List.mem_cons.1 hp with e | hp
    · rw [e]; exact xc 0 _ rfl
    rcases List.mem_cons.1 hp with e | hp
    · rw [e]; exact xc 1 _ rfl
    rcases List.mem_cons.1 hp with e | hp
    · rw [e]; exact xc 2 _ rfl
    · exact (h.next (kept_alloc9 y _)).c p hp⟩
theorem Ac.at1 {V : Value} {x : Ef} (h : Ac W ((V, x) :: L) M N C y) : SlE y (fun _ => True) V x := h.e _ (List.mem_cons_self ..)
theorem Ac.at2 {V U : Value} {x z : Ef} (h : Ac W ((U, z) :: (V, x) :: L) M N C y) : SlE y (fun _ => True) V x := h.e _ (List.mem_cons_of_mem _ (List.mem_cons_self ..))
theorem Ac.st1 {V : Value} {x : Sf} (h : Ac W L ((V, x) :: M) N C y) : SlS y (fun _ => True) V x := h.s _ (List.mem_cons_self ..)
theorem Ac.pr1 {V : Value} {x : List Fn} (h : Ac W L M ((V, x) :: N) C y) : SlP y (fun _ => True) V x := h.f _ (List.mem_cons_self ..)
theorem Ac.pr2 {V U : Value} {x z : List Fn} (h : Ac W L M ((U, z) :: (V, x) :: N) C y) : SlP y (fun _ => True) V x := h.f _ (List.mem_cons_of_mem _ (List.mem_cons_self ..))
end
section
variable {P : Program}
theorem wp_bs3 {o : Oper} {a : Act} {w w' : World} {K : Act → World → Prop} {Q : Exit → Act → World → Prop} {t : TypeId} {x x' x'' : Operand} {v : Value} (ho : o.op = .buildSlice t 3 #[(0, x), (1, x'), (2, x'')]) (p : Value) (hx : a.eval x = p) (p' : Value) (hx' : a.eval x' = p') (p'' : Value) (hx'' : a.eval x'' = p'') (hl : (Instr.buildSlice t 3 #[(0, p), (1, p'), (2, p'')]).run P w = .ok v w') (h : K (a.put o.dst v) w') : o.wp P a w K Q := by
  unfold Oper.wp execOp
  simp only [ho, List.map_toArray, List.map_cons, List.map_nil, hx, hx', hx'']
  simp [hl]
  exact h
theorem wpList_buildThree {ops : Array Oper} {rest : List Oper} {op : Oper} {a : Act} {w : World} {Q : Exit → Act → World → Prop} (hgd : op.guard = none) (t : TypeId) (x x' x'' : Operand) (ho : op.op = .buildSlice t 3 #[(0, x), (1, x'), (2, x'')]) (p p' p'' v : Value) (hx : a.eval x = p) (hx' : a.eval x' = p') (hx'' : a.eval x'' = p'') (w' : World) (hl : (Instr.buildSlice t 3 #[(0, p), (1, p'), (2, p'')]).run P w = .ok v w')
    (h : wpList P ops Q rest (a.put op.dst v) w') : wpList P ops Q (op :: rest) a w :=
  wpList_plain hgd fun _ hK => wp_bs3 ho p hx p' hx' p'' hx'' hl (hK _ _ h)
end
/-- The stores that a statement asks for. -/
theorem stores9 (w : World) (ht : Laid.KTab w) : Calls Tryz.prog 15 #[.slice none 0 0] w fun e w' => ∃ s r, e = .returned (.tuple #[.pointer (some ⟨s, 0, none⟩), .pointer (some ⟨r, 0, none⟩)]) ∧ Kept (fun _ => False) w w' := by
  refine (Vm.stores_nil w ht (by have := inHeap (ht 0 (by decide)); unfold Wt.lowB; omega)).mono ?_
  rintro e w' ⟨s, r, T, kb, fb, he, _, hb, _⟩
  exact ⟨s, r, he, Kept.ofBelow hb⟩
theorem ktab_kept {w w' : World} (ht : Laid.KTab w) (hk : Kept (fun _ => False) w w') : Laid.KTab w' := ktab_below ht (hk.below (Nat.le_refl _) fun _ _ h => h.elim)
set_option maxHeartbeats 1000000 in
theorem check_nil (w : World) : Calls Tryz.prog 23 #[.slice none 0 0] w fun e w' => e = .returned (.iface 57 (.int .i64 3)) ∧ Kept (fun _ => False) w w' := by
  go_enter Tryz.func23, Tryz.ntmps23
  go_upto_region 3 with (fail)
  go_loopw [12] (fun t y => t = .int .i64 0 ∧ y = w) (fun _ _ => 0)
  case atStart => exact ⟨rfl, rfl⟩
  case round =>
    obtain ⟨rfl, rfl⟩ := hrel
    go_upto_region 9 with (fail)
    go_loopw [23, 3] (fun t n y => t = .int .i64 0 ∧ n = .int .i64 0 ∧ y = wr) (fun _ _ _ => 0)
    case atStart => exact ⟨rfl, rfl, rfl⟩
    case round =>
      obtain ⟨rfl, rfl, rfl⟩ := hrel
      go_wp2_with (fail)
      exact bodyPost_ret (v := .iface 57 (.int .i64 3)) (by simp [results, Tryz.results23, go_sem]) rfl ⟨rfl, Kept.refl _ _⟩
/-- Eval, where it comes to its end. -/
theorem eval_ok (g d : Nat) (prog : List Fn) (hright : right prog = true) (w : World) (pv : Value) (sb : Nat) (hp : SlP w (fun _ => True) pv prog) (fuel : Nat) (hfuel : fuel < 4611686018427387904) (v : Nat) (s' : Rs) (hsem : stepCall prog (sem prog ap g d) 0 0 (fun _ => 0) (s0 fuel) = some (v, true, s')) (hd : s'.dry = false) :
    Calls Tryz.prog 16 #[pv, .slice none 0 0, .pointer (some ⟨sb, 0, none⟩), .int .i64 fuel] w fun e w' => ∃ g c, e = .returned (.tuple #[.agg #[.int .u64 v, .slice (some ⟨g, 0, none⟩) 2048 c, .int .i64 s'.used], .nilIface]) ∧ (∀ i, i < 2048 → w'.cell? ⟨g, i, none⟩ = some (.int .u64 (s'.mem i))) ∧ Kept (fun _ => False) w w' := by
  refine (eval_run ap ap_ok g d prog hright w (fun k => k < w.heap.size) pv sb hp.lt (fun _ h => h) fuel hfuel v true s' hsem).mono ?_
  intro e w' h
  unfold EvR at h
  rw [if_neg (by rw [hd]; decide)] at h
  exact h
theorem eval_end (g d : Nat) (prog : List Fn) (hright : right prog = true) (w : World) (pv : Value) (sb : Nat) (hp : SlP w (fun _ => True) pv prog) (fuel : Nat) (hfuel : fuel < 4611686018427387904) (v : Nat) (s' : Rs) (hsem : stepCall prog (sem prog ap g d) 0 0 (fun _ => 0) (s0 fuel) = some (v, false, s')) (hd : s'.dry = false) :
    Calls Tryz.prog 16 #[pv, .slice none 0 0, .pointer (some ⟨sb, 0, none⟩), .int .i64 fuel] w fun e w' => ∃ g c, e = .returned (.tuple #[.agg #[.int .u64 s'.exit, .slice (some ⟨g, 0, none⟩) 2048 c, .int .i64 s'.used], .nilIface]) ∧ (∀ i, i < 2048 → w'.cell? ⟨g, i, none⟩ = some (.int .u64 (s'.mem i))) ∧ Kept (fun _ => False) w w' := by
  refine (eval_run ap ap_ok g d prog hright w (fun k => k < w.heap.size) pv sb hp.lt (fun _ h => h) fuel hfuel v false s' hsem).mono ?_
  intro e w' h
  unfold EvR at h
  rw [if_neg (by rw [hd]; decide)] at h
  exact h
end Ir
end Go.Proofs.YtcgpdijpppcbiaaGreatDoor
namespace Go.Proofs.YtcgpdijpppcbiaaGreatDoor
open Go.RowKit
set_option linter.unusedVariables false
set_option linter.unusedSimpArgs false
section
variable {P : Program} {o : Oper} {a : Act} {w : World} {K : Act → World → Prop} {Q : Exit → Act → World → Prop}
theorem wanted_none {y : Nat → Option Bool} (h : o.guard = none) : Region.wanted o y = true := by simp [Region.wanted, h]
theorem dep_of {l : Array Bool} (h : (o.after.all fun e => !Region.binds .any e || l.getD e.on false) = true) (k : Nat) (hk : (o.after.any fun e => e.on == k && Region.binds .any e) = true) : l.getD k false = true := by
  rw [Array.any_eq_true] at hk
  rw [Array.all_eq_true] at h
  obtain ⟨i, hi, e⟩ := hk
  have := h i hi
  simp only [Bool.and_eq_true, beq_iff_eq] at e
  rw [e.2, e.1] at this
  simpa using this
theorem wp_moveE (x : Operand) (ho : o.op = .move x) (v : Value) (hx : a.eval x = v) (h : K (a.put o.dst v) w) : o.wp P a w K Q := by
  unfold Oper.wp execOp
  simp only [ho, hx]
  exact h
theorem wp_assignE (x : Operand) (ho : o.op = .assign x) (v : Value) (hx : a.eval x = v) (h : K (a.put o.dst v) w) : o.wp P a w K Q := by
  unfold Oper.wp execOp
  simp only [ho, hx]
  exact h
theorem wp_callE1 (f : FuncId) (x : Operand) (t : TypeId) (ho : o.op = .call { callee := .value (.func f), args := #[x], argTypes := #[t] }) (p v : Value) (hx : a.eval x = p) (hr : (callFunc f #[p]).run P w = .ok (.enter f #[p]) w) (hc : Calls P f #[p] w fun e w' => e = .returned v ∧ K (a.put o.dst v) w') : o.wp P a w K Q := by
  have hr' : (execOp a.eval o).run P w = .ok (.enter f #[p]) w := by
    subst hx
    unfold execOp
    simp only [ho]
    cases x <;> (simp [go_sem]; simpa [Act.eval, Array.getD_eq_getD_getElem?] using hr)
  unfold Oper.wp
  rw [hr', Oper.upon_enter]
  exact hc.mono fun e w' ⟨he, hk⟩ => by rw [he]; exact hk
theorem wp_bld1 (t : TypeId) {i : Nat} (x : Operand) (ho : o.op = .build t #[(i, x)]) (p : Value) (hx : a.eval x = p) (cells : Array Value) (hc : P.built t [(i, p)] = some cells) (h : K (a.put o.dst (.agg cells)) w) : o.wp P a w K Q := by
  have e : P.built t ((#[(i, x)] : Array (Nat × Operand)).map fun (i, x) => (i, a.eval x)).toList = some cells := by rw [← hc, ← hx]; simp only [List.map_toArray, List.map_cons, List.map_nil]
  refine wp_build t _ ho (by rw [e]; rfl) ?_
  rw [e]; exact h
theorem wp_bld2 (t : TypeId) {i i2 : Nat} (x x2 : Operand) (ho : o.op = .build t #[(i, x), (i2, x2)]) (p p2 : Value) (hx : a.eval x = p) (hx2 : a.eval x2 = p2) (cells : Array Value) (hc : P.built t [(i, p), (i2, p2)] = some cells) (h : K (a.put o.dst (.agg cells)) w) : o.wp P a w K Q := by
  subst hx hx2
  have e : P.built t ((#[(i, x), (i2, x2)] : Array (Nat × Operand)).map fun (i, x) => (i, a.eval x)).toList = some cells := by rw [← hc]; simp only [List.map_toArray, List.map_cons, List.map_nil]
  refine wp_build t _ ho (by rw [e]; rfl) ?_
  rw [e]; exact h
theorem wp_bld3 (t : TypeId) {i i2 i3 : Nat} (x x2 x3 : Operand) (ho : o.op = .build t #[(i, x), (i2, x2), (i3, x3)]) (p p2 p3 : Value) (hx : a.eval x = p) (hx2 : a.eval x2 = p2) (hx3 : a.eval x3 = p3) (cells : Array Value) (hc : P.built t [(i, p), (i2, p2), (i3, p3)] = some cells) (h : K (a.put o.dst (.agg cells)) w) : o.wp P a w K Q := by
  subst hx hx2 hx3
  have e : P.built t ((#[(i, x), (i2, x2), (i3, x3)] : Array (Nat × Operand)).map fun (i, x) => (i, a.eval x)).toList = some cells := by rw [← hc]; simp only [List.map_toArray, List.map_cons, List.map_nil]
  refine wp_build t _ ho (by rw [e]; rfl) ?_
  rw [e]; exact h
end
/-- An array, as the list of its places. -/
def listOf (f : Nat → Value) : Nat → Nat → List Value
  | _, 0 => []
  | k, n + 1 => f k :: listOf f (k + 1) n
theorem listOf_get (f : Nat → Value) : ∀ (n k i : Nat), i < n → (listOf f k n)[i]? = some (f (k + i))
  | 0, _, _, h => by omega
  | n + 1, k, 0, _ => rfl
  | n + 1, k, i + 1, h => by
    show (listOf f (k + 1) n)[i]? = _
    rw [listOf_get f n (k + 1) i (by omega), show k + 1 + i = k + (i + 1) by omega]
theorem listOf_len (f : Nat → Value) : ∀ (n k : Nat), (listOf f k n).length = n
  | 0, _ => rfl
  | n + 1, k => by show (listOf f (k + 1) n).length + 1 = _; rw [listOf_len f n (k + 1)]
theorem arr_of {T : Array Value} {n : Nat} (hn : T.size = n) (g : Nat → Value) (hg : ∀ j, j < n → T.getD j undef = g j) : T = (listOf g 0 n).toArray := by
  apply Array.ext
  · rw [hn]; simp [listOf_len]
  · intro i h1 h2
    have e := hg i (by omega)
    have e2 : T.getD i undef = T[i] := by simp [Array.getD, h1]
    rw [← e2, e]
    have h3 := listOf_get g n 0 i (by omega)
    rw [Nat.zero_add] at h3
    have h4 : (listOf g 0 n)[i]? = some (listOf g 0 n)[i] := by
      rw [List.getElem?_eq_getElem]
    rw [h4] at h3
    injection h3 with h3
    simp [h3]
theorem getD_put (T : Array Value) (i k : Nat) (v : Value) (hi : i < T.size) : (T.setIfInBounds i v).getD k undef = if k = i then v else T.getD k undef := by
  by_cases h : k = i
  · subst h; simp [Array.getD, hi]
  · rw [if_neg h]
    simp only [Array.getD_eq_getD_getElem?]
    rw [Array.getElem?_setIfInBounds_ne (fun e => h e.symm)]
namespace Ir
open Kc
/-- What is known of a drawn region's run, when some of its operations are behind: each has given its value. -/
structure RI (n : Nat) (slot : Nat → Nat) (PV : Nat → Value → World → Prop) (A0 : Act) (W : World) (l : Array Bool) (a : Act) (w : World) : Prop where
  sz : l.size = n
  df : a.defers = A0.defers
  ts : a.tmps.size = A0.tmps.size
  kp : Kept (fun _ => False) W w
  old : ∀ j, (∀ i, i < n → slot i ≠ j) → a.tmps.getD j undef = A0.tmps.getD j undef
  pv : ∀ i, i < n → l.getD i false = true → PV i (a.tmps.getD (slot i) undef) w
section
variable {n : Nat} {slot : Nat → Nat} {PV : Nat → Value → World → Prop} {A0 : Act} {W : World} {l : Array Bool} {a : Act} {w w' : World}
theorem RI.step (h : RI n slot PV A0 W l a w) (hinj : ∀ i j, i < n → j < n → slot i = slot j → i = j) (hlt : ∀ i, i < n → slot i < A0.tmps.size) (hpv : ∀ i v w w', Kept (fun _ => False) w w' → PV i v w → PV i v w') (i : Nat) (hi : i < n) {v : Value} (hk : Kept (fun _ => False) w w') (hv : PV i v w') (d : Option Tmp) (hd : d = some (slot i)) : RI n slot PV A0 W (l.setIfInBounds i true) (a.put d v) w' := by
  subst hd
  have hs : slot i < a.tmps.size := by rw [h.ts]; exact hlt i hi
  refine ⟨by simp [h.sz], h.df, by show (a.tmps.setIfInBounds (slot i) v).size = _; simp [h.ts], h.kp.trans hk fun _ _ e => e, fun j hj => ?_, fun j hj hl => ?_⟩
  · show (a.tmps.setIfInBounds (slot i) v).getD j undef = _
    rw [getD_put _ _ _ _ hs, if_neg (fun e => hj i hi e.symm)]
    exact h.old j hj
  · show PV j ((a.tmps.setIfInBounds (slot i) v).getD (slot j) undef) w'
    rw [getD_put _ _ _ _ hs]
    by_cases e : slot j = slot i
    · rw [if_pos e]
      have := hinj j i hj hi e
      subst this
      exact hv
    · rw [if_neg e]
      rw [getD_set l i j false (by rw [h.sz]; exact hi), if_neg (fun e2 => e (by rw [e2]))] at hl
      exact hpv j _ w w' hk (h.pv j hj hl)
end
/-- A statement by itself, as a value. -/
def StV (y : World) (v : Value) : Sf → Prop
  | .nil => False
  | .cons kind n ao an ak bo bn bk body els _ => ∃ aA nA cA aB nB cB aC nC cC aD nD cD, v = .agg #[.int .i64 kind, .int .i64 n, .int .i64 ao, .int .u64 an, .slice aA nA cA, .int .i64 bo, .int .u64 bn, .slice aB nB cB, .slice aC nC cC, .slice aD nD cD] ∧
    SlE y (fun _ => True) (.slice aA nA cA) ak ∧ SlE y (fun _ => True) (.slice aB nB cB) bk ∧ SlS y (fun _ => True) (.slice aC nC cC) body ∧ SlS y (fun _ => True) (.slice aD nD cD) els ∧ an < 18446744073709551616 ∧ bn < 18446744073709551616
def Sf.wth : Sf → Sf → Sf
  | .nil, _ => .nil
  | .cons kind n ao an ak bo bn bk body els _, r => .cons kind n ao an ak bo bn bk body els r
def FnV (y : World) (v : Value) (f : Fn) : Prop := ∃ a n c, v = .agg #[.int .i64 f.params, .int .i64 f.locals, .slice a n c] ∧ SlS y (fun _ => True) (.slice a n c) f.body
section
variable {y y' : World} {v v2 v3 : Value} {x x2 x3 : Sf} {f f2 : Fn}
theorem StV.kept (h : StV y v x) (hk : Kept (fun _ => False) y y') : StV y' v x := by
  cases x with
  | nil => exact h
  | cons kind n ao an ak bo bn bk body els r =>
    obtain ⟨aA, nA, cA, aB, nB, cB, aC, nC, cC, aD, nD, cD, e, h1, h2, h3, h4, h5, h6⟩ := h
    exact ⟨aA, nA, cA, aB, nB, cB, aC, nC, cC, aD, nD, cD, e, h1.kept hk fun _ _ => id, h2.kept hk fun _ _ => id, h3.kept hk fun _ _ => id, h4.kept hk fun _ _ => id, h5, h6⟩
theorem FnV.kept (h : FnV y v f) (hk : Kept (fun _ => False) y y') : FnV y' v f := by
  obtain ⟨a, n, c, e, h1⟩ := h
  exact ⟨a, n, c, e, h1.kept hk fun _ _ => id⟩
theorem bst1 (h : StV y v x) : ∃ V y', (Instr.buildSlice 33 1 #[(0, v)]).run Tryz.prog y = .ok V y' ∧ Kept (fun _ => False) y y' ∧ SlS y' (fun _ => True) V (x.wth .nil) := by
  cases x with
  | nil => exact h.elim
  | cons kind n ao an ak bo bn bk body els r =>
    obtain ⟨aA, nA, cA, aB, nB, cB, aC, nC, cC, aD, nD, cD, rfl, h1, h2, h3, h4, h5, h6⟩ := h
    exact ⟨_, _, buildS1 _ _ _ _ _ _ _ _ _ _ y, kept_alloc9 y _, sx1 (D := fun _ => True) trivial h1 h2 h3 h4 h5 h6⟩
theorem buildF2 (l0 l1 l2 m0 m1 m2 : Value) (w : World) : (Instr.buildSlice 38 2 #[(0, .agg #[l0, l1, l2]), (1, .agg #[m0, m1, m2])]).run Tryz.prog w = .ok (.slice (some ⟨w.heap.size, 0, none⟩) 2 2) (w.alloc (.cells #[l0, l1, l2, m0, m1, m2] 37)) := by kernel_rfl
theorem bfn2 (h : FnV y v f) (g : FnV y v2 f2) : ∃ V y', (Instr.buildSlice 38 2 #[(0, v), (1, v2)]).run Tryz.prog y = .ok V y' ∧ Kept (fun _ => False) y y' ∧ SlP y' (fun _ => True) V [f, f2] := by
  obtain ⟨a, n, c, rfl, h⟩ := h
  obtain ⟨a2, n2, c2, rfl, g⟩ := g
  have hk := kept_alloc9 y (.cells #[.int .i64 f.params, .int .i64 f.locals, .slice a n c, .int .i64 f2.params, .int .i64 f2.locals, .slice a2 n2 c2] 37)
  refine ⟨_, _, buildF2 _ _ _ _ _ _ y, hk, _, 2, rfl, by simp, .inr ⟨y.heap.size, 0, rfl, fun i fn hi => ?_⟩⟩
  match i, hi with
  | 0, hi => cases hi; exact ⟨trivial, xc 0 _ rfl, xc 1 _ rfl, _, xc 2 _ rfl, h.kept hk fun _ _ => id⟩
  | 1, hi => cases hi; exact ⟨trivial, xc 3 _ rfl, xc 4 _ rfl, _, xc 5 _ rfl, g.kept hk fun _ _ => id⟩
  | i + 2, hi => simp at hi
end
theorem bltA (k : Int) (a0 a1 a2 : Value) : Tryz.prog.built 35 [(0, .int .i64 k), (2, .agg #[a0, a1, a2])] = some #[.int .i64 k, .int .i64 0, a0, a1, a2, .int .i64 0, .int .u64 0, .slice none 0 0, .slice none 0 0, .slice none 0 0] := by kernel_rfl
theorem bltAB (k : Int) (a0 a1 a2 b0 b1 b2 : Value) : Tryz.prog.built 35 [(0, .int .i64 k), (2, .agg #[a0, a1, a2]), (3, .agg #[b0, b1, b2])] = some #[.int .i64 k, .int .i64 0, a0, a1, a2, b0, b1, b2, .slice none 0 0, .slice none 0 0] := by kernel_rfl
theorem runCst (v : Value) (w : World) : (callFunc 9 #[v]).run Tryz.prog w = .ok (.enter 9 #[v]) w := by kernel_rfl
theorem bltF (a : Option Addr) (n c : Nat) : Tryz.prog.built 37 [(2, .slice a n c)] = some #[.int .i64 0, .int .i64 0, .slice a n c] := by kernel_rfl
end Ir
end Go.Proofs.YtcgpdijpppcbiaaGreatDoor
