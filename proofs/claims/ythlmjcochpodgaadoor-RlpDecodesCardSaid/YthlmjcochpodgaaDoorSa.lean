/-
  mootref03: Same. Own work.
-/
import Derived.Test.YthlmjcochpodgaaDoorLa
import Derived.Test.YthlmjcochpodgaaDoorQin
namespace Go.Proofs.YthlmjcochpodgaaDoor
open Go.ChangeShapes Go.WideShapes Go.Deep Go.RowKit
set_option linter.unusedVariables false
set_option linter.unusedSimpArgs false
namespace Rl
open Classical in
noncomputable def same (l : Bool) (bs : List Bt) (k : Fo) (l' : Bool) (bs' : List Bt) (k' : Fo) : Bool := decide (l = l' ∧ bs = bs' ∧ k = k')
theorem same_true {l l' : Bool} {bs bs' : List Bt} {k k' : Fo} : same l bs k l' bs' k' = true ↔ l = l' ∧ bs = bs' ∧ k = k' := by unfold same; simp
theorem same_false {l l' : Bool} {bs bs' : List Bt} {k k' : Fo} (h : ¬ (l = l' ∧ bs = bs' ∧ k = k')) : same l bs k l' bs' k' = false := by unfold same; simpa using h
theorem drop_inj : ∀ (k k' : Fo) (j : Nat), j ≤ k.len → (k = k' → k.drop j = k'.drop j) := fun k k' j _ h => by rw [h]
set_option maxHeartbeats 4000000 in
set_option maxRecDepth 100000 in
theorem same_step (w : World) (l : Bool) (n c n' c' : Nat) (a a' : Option Addr) (bs : List Bt) (k : Fo) (l2 : Bool) (m d m' d' : Nat) (b b' : Option Addr) (bs2 : List Bt) (k2 : Fo) (hB : IsB w a n c bs) (hK : IsK w a' n' c' k) (hB2 : IsB w b m d bs2) (hK2 : IsK w b' m' d' k2)
    (ih : ∀ (w : World) (l : Bool) (n c n' c' : Nat) (a a' : Option Addr) (bs : List Bt) (kk : Fo) (l2 : Bool) (m d m' d' : Nat) (b b' : Option Addr) (bs2 : List Bt) (k2 : Fo), kk.size < k.size → IsB w a n c bs → IsK w a' n' c' kk → IsB w b m d bs2 → IsK w b' m' d' k2 →
      Calls Tryd.prog 20 #[.agg #[.bool l, .slice a n c, .slice a' n' c'], .agg #[.bool l2, .slice b m d, .slice b' m' d']] w fun e w' => e = .returned (.bool (same l bs kk l2 bs2 k2)) ∧ Below w.heap.size w w') :
    Calls Tryd.prog 20 #[.agg #[.bool l, .slice a n c, .slice a' n' c'], .agg #[.bool l2, .slice b m d, .slice b' m' d']] w fun e w' => e = .returned (.bool (same l bs k l2 bs2 k2)) ∧ Below w.heap.size w w' := by
  have H0 := Lib.hid (two_boxes w l (.slice a n c) (.slice a' n' c') l2 (.slice b m d) (.slice b' m' d'))
  have HX := Lib.hid (And.intro hB hK)
  have HY := Lib.hid (And.intro hB2 hK2)
  have HI := Lib.hid ih
  have hv1 := conv_str (hB.keep (keep_below H0.out.1))
  have hv2 := conv_str (hB2.keep (keep_below H0.out.1))
  have HN : Hid (n' ≤ maxLen) := Lib.hid (Nat.le_trans hK.2.1 hK.2.2.1)
  clear hB hK hB2 hK2 ih
  by_cases hll : l = l2
  · subst hll
    by_cases hbb : bs = bs2
    · subst hbb
      by_cases hnn : n' = m'
      · subst hnn
        have HS : Hid (∀ q : Bool, (q = true ↔ k = k2) → same l bs k l bs k2 = q) := Lib.hid (fun q h => by
          cases q with
          | true => exact same_true.2 ⟨rfl, rfl, h.1 rfl⟩
          | false => exact same_false fun h2 => by have := h.2 h2.2.2; cases this)
        generalize same l bs k l bs k2 = SS at *
        go_enter Tryd.func20, Tryd.ntmps20
        go_wp2_with (fail)
        clear hv1 hv2
        generalize (w.alloc (.cells #[.bool l, .slice a n c, .slice a' n' c'] 25)).alloc (.cells #[.bool l, .slice b m d, .slice b' n' d'] 25) = y0 at *
        go_loopw [5] (fun i y => ∃ j : Nat, i = .int .i64 j ∧ Hid (j ≤ n' ∧ (k = k2 ↔ k.drop j = k2.drop j) ∧ Below y0.heap.size y0 y)) (fun i _ => n' - (intOf i).toNat)
        case atStart => exact ⟨0, rfl, Lib.hid ⟨Nat.zero_le _, by rw [Fo.drop_zero, Fo.drop_zero], Below.refl _ _⟩⟩
        case round =>
          obtain ⟨j, rfl, hp⟩ := hrel
          have HP := Lib.hid hp.out
          clear hp
          have HB1 := Lib.hid (H0.out.2.1.keep HP.out.2.2)
          have HB2 := Lib.hid (H0.out.2.2.keep HP.out.2.2)
          have x2 := HB1.out.k2
          by_cases hlt : (j : Int) < (n' : Int)
          · have hbw := bl H0.out.1 HP.out.2.2
            obtain ⟨p, o, l1, bs1, k1, a1, n1, c1, a3, n3, c3, rfl, hd1, hb1, hk1, G0, G1, G2⟩ := (HX.out.2.keep (keep_below hbw)).at (show j < n' by omega)
            obtain ⟨q, u, l4, bs4, k4, a4, n4, c4, a5, n5, c5, rfl, hd2, hb2, hk2, F0, F1, F2⟩ := (HY.out.2.keep (keep_below hbw)).at (show j < n' by omega)
            have HJ := Lib.hid (show j < n' ∧ wrap64 ((j : Int) + 1) = ((j + 1 : Nat) : Int) by
              refine ⟨by omega, ?_⟩
              have := HN.out; simp only [maxLen] at this; unfold wrap64; omega)
            have HD := Lib.hid (show (k = k2 ↔ (l1 = l4 ∧ bs1 = bs4 ∧ k1 = k4) ∧ k.drop (j + 1) = k2.drop (j + 1)) by
              rw [HP.out.2.1, hd1, hd2]
              constructor
              · intro h; injection h with e1 e2 e3 e4; exact ⟨⟨e1, e2, e3⟩, e4⟩
              · rintro ⟨⟨rfl, rfl, rfl⟩, e⟩; rw [e])
            have Q1 := Lib.hid (fun s : Wd (Below wr.heap.size wr) => in_of_below s (fun y hb => bl s.ok hb) (HI.out s.val l1 n1 c1 n3 c3 a1 a3 bs1 k1 l4 n4 c4 n5 c5 a4 a5 bs4 k4 (Fo.drop_kid hd1) (hb1.keep (keep_below s.ok)) (hk1.keep (keep_below s.ok)) (hb2.keep (keep_below s.ok)) (hk2.keep (keep_below s.ok))))
            have HSS := Lib.hid (show same l1 bs1 k1 l4 bs4 k4 = true ↔ (l1 = l4 ∧ bs1 = bs4 ∧ k1 = k4) from same_true)
            generalize same l1 bs1 k1 l4 bs4 k4 = D at *
            have HBW := Lib.hid hbw
            clear hd1 hd2 hb1 hk1 hb2 hk2 hbw
            go_upto_region 6 with (fail)
            have s0 : Below wr.heap.size wr wr.drew := (Below.refl _ _).drew
            have NE : Nonempty (Wd (Below wr.heap.size wr)) := ⟨⟨_, s0⟩⟩
            have S0 := Lib.hid s0
            have j0 : ∀ s : Wd (Below wr.heap.size wr), s.val.cell? ⟨w.heap.size, 2, none⟩ = some (.slice (some ⟨p, o, none⟩) n' c') := fun s => keep1 s.ok x2
            have j1 : ∀ s : Wd (Below wr.heap.size wr), s.val.cell? ⟨w.heap.size + 1, 2, none⟩ = some (.slice (some ⟨q, u, none⟩) n' d') := fun s => keep1 s.ok HB2.out.k2
            have j2 : ∀ s : Wd (Below wr.heap.size wr), s.val.cell? ⟨p, o + j * 3, none⟩ = some (.bool l1) := fun s => keep1 s.ok G0
            have j3 : ∀ s : Wd (Below wr.heap.size wr), s.val.cell? ⟨p, o + j * 3 + 1, none⟩ = some (.slice a1 n1 c1) := fun s => keep1 s.ok G1
            have j4 : ∀ s : Wd (Below wr.heap.size wr), s.val.cell? ⟨p, o + j * 3 + 2, none⟩ = some (.slice a3 n3 c3) := fun s => keep1 s.ok G2
            have j5 : ∀ s : Wd (Below wr.heap.size wr), s.val.cell? ⟨q, u + j * 3, none⟩ = some (.bool l4) := fun s => keep1 s.ok F0
            have j6 : ∀ s : Wd (Below wr.heap.size wr), s.val.cell? ⟨q, u + j * 3 + 1, none⟩ = some (.slice a4 n4 c4) := fun s => keep1 s.ok F1
            have j7 : ∀ s : Wd (Below wr.heap.size wr), s.val.cell? ⟨q, u + j * 3 + 2, none⟩ = some (.slice a5 n5 c5) := fun s => keep1 s.ok F2
            clear s0 x2 G0 G1 G2 F0 F1 F2
            refine wp_region_in (Below wr.heap.size wr) (by kernel_rfl) (by kernel_rfl) S0.out ?_
            repeat (go_big_quiet_step (with_reducible exact Q1.out _))
            clear j0 j1 j2 j3 j4 j5 j6 j7 Q1
            refine wpQuiet_nil ?_
            rintro y ⟨⟨_, hby⟩, rfl⟩
            clear hlt
            have HBY := Lib.hid (bl HP.out.2.2 hby)
            go_wp2_with (fail)
            · go_ret
              refine ⟨?_, bl H0.out.1 HBY.out⟩
              have hss : SS = false := HS.out false ⟨fun h => (by cases h), fun h => by have h1 := HSS.out.2 (HD.out.1 h).1; simp_all⟩
              rw [hss]; rfl
            · go_roundw
              case rel => exact ⟨j + 1, by rw [HJ.out.2], Lib.hid ⟨HJ.out.1, ⟨fun h => (HD.out.1 h).2, fun h => HD.out.2 ⟨HSS.out.1 (by simp_all), h⟩⟩, HBY.out⟩⟩
              case measure => rw [HJ.out.2]; have := HJ.out.1; simp [intOf]; omega
          · go_wp2_with (fail)
            go_ret
            refine ⟨?_, bl H0.out.1 HP.out.2.2⟩
            have hss : SS = true := HS.out true ⟨fun _ => by rw [HP.out.2.1, Fo.drop_end (by have := HX.out.2.1; omega), Fo.drop_end (by have := HY.out.2.1; omega)], fun _ => rfl⟩
            rw [hss]; rfl
      · have HS := Lib.hid (show same l bs k l bs k2 = false from same_false fun h => hnn (by rw [HX.out.2.1, HY.out.2.1, h.2.2]))
        have hne : ((n' : Int) == (m' : Int)) = false := by simpa using (show ¬ (n' : Int) = (m' : Int) by omega)
        clear hnn
        go_enter Tryd.func20, Tryd.ntmps20
        go_wp2_with (fail)
        go_ret
        exact ⟨by rw [HS.out]; rfl, H0.out.1⟩
    · have HS := Lib.hid (show same l bs k l bs2 k2 = false from same_false fun h => hbb h.2.1)
      have hs : ((str bs).toList == (str bs2).toList) = false := by rw [str_beq, decide_eq_false hbb]
      clear hbb
      go_enter Tryd.func20, Tryd.ntmps20
      go_wp2_with (fail)
      go_ret
      exact ⟨by rw [HS.out]; rfl, H0.out.1⟩
  · have HS := Lib.hid (show same l bs k l2 bs2 k2 = false from same_false fun h => hll h.1)
    have hs : (l == l2) = false := by simpa using hll
    clear hll
    go_enter Tryd.func20, Tryd.ntmps20
    go_wp2_with (fail)
    go_ret
    exact ⟨by rw [HS.out]; rfl, H0.out.1⟩
theorem same_walk (w : World) (l : Bool) (n c n' c' : Nat) (a a' : Option Addr) (bs : List Bt) (k : Fo) (l2 : Bool) (m d m' d' : Nat) (b b' : Option Addr) (bs2 : List Bt) (k2 : Fo) (hB : IsB w a n c bs) (hK : IsK w a' n' c' k) (hB2 : IsB w b m d bs2) (hK2 : IsK w b' m' d' k2) :
    Calls Tryd.prog 20 #[.agg #[.bool l, .slice a n c, .slice a' n' c'], .agg #[.bool l2, .slice b m d, .slice b' m' d']] w fun e w' => e = .returned (.bool (same l bs k l2 bs2 k2)) ∧ Below w.heap.size w w' := by
  generalize hz : k.size = z at *
  induction z using Nat.strongRecOn generalizing w l n c n' c' a a' bs k l2 m d m' d' b b' bs2 k2 with
  | _ z ih =>
    subst hz
    exact same_step w l n c n' c' a a' bs k l2 m d m' d' b b' bs2 k2 hB hK hB2 hK2 fun w l n c n' c' a a' bs kk l2 m d m' d' b b' bs2 k2 h1 h2 h3 h4 h5 => ih kk.size h1 w l n c n' c' a a' bs kk l2 m d m' d' b b' bs2 k2 h2 h3 h4 h5 rfl
end Rl
end Go.Proofs.YthlmjcochpodgaaDoor
