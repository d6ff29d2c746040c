/-
  KeccakApart: the walk. Own work (written by genap.py).
-/
import Derived.Test.YtdmbmilfclllaaaDoorKap
namespace Go.Proofs.YtdmbmilfclllaaaDoor
open Go.RowKit
set_option linter.unusedVariables false
set_option linter.unusedSimpArgs false
namespace Kc
set_option maxHeartbeats 16000000 in
set_option maxRecDepth 100000 in
theorem apart_walk (l1 l2 : List Pc) (A1 A2 : Option Addr) (cap1 cap2 : Nat) (w : World) (ht : Laid.KTab w) (hL1 : IsPcs w A1 l1) (hL2 : IsPcs w A2 l2) (hc1 : l1.length ≤ cap1) (hc2 : l2.length ≤ cap2) (hm1 : cap1 ≤ maxLen) (hm2 : cap2 ≤ maxLen) (hb1 : lens l1 ≤ 1048576) (hb2 : lens l2 ≤ 1048576) :
    Calls Tryd.prog 4 #[.slice A1 l1.length cap1, .slice A2 l2.length cap2] w fun e w' => e = .returned (.bool true) ∧ Below w.heap.size w w' := by
  obtain ⟨i0, hi0, hi1, hi2, hi3⟩ := one1
  have HI := Lib.hid (And.intro hi0 (And.intro hi1 (And.intro hi2 hi3)))
  clear hi0 hi1 hi2 hi3
  have HT := Lib.hid ht
  have HL1 := Lib.hid hL1
  have HL2 := Lib.hid hL2
  unfold maxLen at hm1 hm2
  have HC := Lib.hid (And.intro hb1 hb2)
  have e1 : (l1.length : Int) ≤ 9223372036854775807 := by omega
  have e2 : (l2.length : Int) ≤ 9223372036854775807 := by omega
  clear ht hL1 hL2 hb1 hb2 hc1 hc2 hm1 hm2
  have hmx := @Mm.run_max2 Tryd.prog
  have z2 := zeroHash
  generalize hz : (tab 32 fun _ => bv 0#8) = z32 at *
  have HZ32 := Lib.hid hz
  clear hz
  have hzi : (Tryd.prog.info? 27).map (·.size) = some z32.size := by rw [← HZ32.out]; exact infH _
  have hzo : z32.all (·.oneCell') = true := by rw [← HZ32.out]; exact one_bv _ _
  have hzl : z32.size = 32 := by rw [← HZ32.out, tab_size]
  have HZI := Lib.hid hzi
  have HZO := Lib.hid hzo
  have HZL := Lib.hid hzl
  clear hzi hzo hzl
  go_enter Tryd.func4, Tryd.ntmps4
  go_upto_region 4 with (first
    | (go_at_call 11; with_reducible refine (new_walk w).mono ?_; rintro e w1 ⟨rfl, hT1, hb1, hs1⟩; have H1 := Lib.hid (And.intro (isH_nil hT1) (And.intro hb1 hs1)); clear hT1 hb1 hs1)
    | (go_at_call 11; with_reducible refine (new_walk w1).mono ?_; rintro e w2 ⟨rfl, hT1, hb1, hs1⟩; have H2 := Lib.hid (And.intro (isH_nil hT1) (And.intro hb1 hs1)); clear hT1 hb1 hs1)
    | (go_at_call 12; refine (hsum_nil _).mono ?_; rw [HZ32.out]; rintro e w3 ⟨rfl, hb3⟩)
    | (refine wpList_store_row rfl 27 (.tmp 8) (.tmp 24) rfl w3.heap.size z32 rfl rfl 27 z32 (heap_alloc_last w3 _) HZI.out rfl HZO.out ?_; rw [World.setRow_alloc_new]; simp only [Act.put]))
  have HP0 : Hid (TwoH w w2.heap.size w.heap.size w1.heap.size (.slice none 0 0) (.slice none 0 0) [] [] [] [] (w3.alloc (.cells z32 27))) := by
    obtain ⟨k1, k2, k3⟩ := H1.out
    obtain ⟨j1, j2, j3⟩ := H2.out
    have kb : Below w2.heap.size w2 (w3.alloc (.cells z32 27)) := hb3.alloc hb3.size _
    have kbW : Below w.heap.size w (w3.alloc (.cells z32 27)) := bl (bl k2 j2) kb
    exact Lib.hid ⟨⟨IsH.below (k1.below j2) kb, World.ownsRow_nil _ _ _ _, kbW, Nat.le_refl _, by omega, kb.size⟩, ⟨j1.below kb, World.ownsRow_nil _ _ _ _, kbW, by omega, j3, kb.size⟩, by omega, fun k e => by cases e⟩
  clear H1 H2 hb3
  generalize w3.alloc (.cells z32 27) = y0 at *
  generalize w2.heap.size = B at *
  generalize w1.heap.size = q2 at *
  generalize hq : w.heap.size = q1 at *
  have HQ := Lib.hid hq
  clear hq
  have HP0' := Lib.hid (ktab_below HT.out HP0.out.p1.below)
  go_upto_region 8 with (first
    | (go_at_call 9; refine (fixed_walk permIs _ HP0'.out).mono ?_; rintro e w4 ⟨rfl, hb4⟩; have HP3 := Lib.hid (HP0.out.next hb4); clear hb4)
    | (go_at_call 13; refine (Err.is_num 1 1 _).mono ?_; rintro e _ ⟨rfl, rfl⟩)
    | (go_at_call 14; refine (add_nil _ _).mono ?_; rintro e _ ⟨rfl, rfl⟩))
  clear HP0 HP0'
  go_wp2_with fail
  go_loopw [10, 11, 54] (fun t s c y => ∃ (i : Nat) (V1 V2 : Value), i ≤ max l1.length l2.length ∧ c = .int .i64 i ∧ t = V1 ∧ s = V2 ∧ Hid (TwoH w B q1 q2 V1 V2 (joined l1 i) (joined l1 i) (joined l2 i) (joined l2 i) y)) (fun _ _ c _ => max l1.length l2.length - (intOf c).toNat)
  case atStart => exact ⟨0, _, _, Nat.zero_le _, rfl, rfl, rfl, by unfold joined; simpa using HP3⟩
  case round =>
    obtain ⟨i, V1, V2, hil, rfl, rfl, rfl, hp⟩ := hrel
    clear HP3
    by_cases hlt : (i : Int) < max (l1.length : Int) (l2.length : Int)
    · have hi1 : (i : Int) + 1 ≤ 9223372036854775807 := by omega
      have HX : Hid (i + 1 ≤ max l1.length l2.length) := Lib.hid (by omega)
      have hq1lt : Hid (q1 < wr.heap.size ∧ q2 < wr.heap.size) := Lib.hid ⟨hp.out.p1.hh.lt, hp.out.p2.hh.lt⟩
      have HK : Hid (0 < w.heap.size) := Lib.hid (inHeap (HT.out 0 (by decide)))
      by_cases h1 : (i : Int) < (l1.length : Int)
      · obtain ⟨b, o, a1, c1, bs, rfl, hu, hbs, hbn, hbc, hbm, hj, hlow⟩ := piece_at (i := i) HL1.out (by omega)
        have HU := Lib.hid hu
        have HB0 := Lib.hid hbs
        have HBN := Lib.hid hbn
        have HJ := Lib.hid hj
        have hb20 : Hid ((joined l1 i ++ bs).length ≤ 1048576) := Lib.hid (by rw [← hj]; exact Nat.le_trans (joined_le l1 (i + 1)) HC.out.1)
        clear hu hbs hbn hbc hbm hj hlow
        go_upto_region 11 with (fail)
        have hown0 : Hid ((wr.alloc (.cells #[] 5)).ownsRow wr.heap.size 5 1 (.slice (some ⟨wr.heap.size, 0, none⟩) 0 0) 0 []) := Lib.hid ⟨rfl, .inr ⟨wr.heap.size, 0, #[], rfl, Nat.le_refl _, heap_alloc_new wr _, Nat.le_refl _, by decide, rfl, rfl⟩⟩
        have hbe : Below wr.heap.size wr (wr.alloc (.cells #[] 5)) := (Below.refl _ _).alloc (Nat.le_refl _) _
        have hu2 := HU.out _ (bl hp.out.p1.below hbe)
        have hsrc : Hid ((a1 = none ∧ bs.length = 0 ∧ c1 = 0 ∧ bs.map bv = []) ∨ ∃ ad, a1 = some ad ∧ (bs.map bv).length = bs.length * 1 ∧ ∀ j u, (bs.map bv)[j]? = some u → (wr.alloc (.cells #[] 5)).cell? (ad.add j) = some u) :=
          Lib.hid (src_of (w := wr) (wr.alloc (.cells #[] 5)) (HB0.out _ hp.out.p1.below) HBN.out (fun b o v hv => keep1 hbe hv))
        have hlb : Hid (0 + bs.length ≤ maxLen ∧ (0 + bs.length) * 1 ≤ 140737488355328) := Lib.hid (by have := hb20.out; rw [List.length_append] at this; exact ⟨by unfold maxLen; omega, by omega⟩)
        clear hbe
        go_upto_region 12 with (refine wpList_append_any rfl (.tmp 61) (.tmp 65) 22 rfl wr.heap.size 5 i0 (.int .u8 0) 1 1 und22 HI.out rfl (by decide) _ 0 [] rfl hown0.out a1 bs.length c1 (bs.map bv) rfl hsrc.out (by intro u hu; obtain ⟨b, _, rfl⟩ := List.mem_map.1 hu; rfl) hlb.out.1 hlb.out.2 (by simp) ?_; intro V4 w5 hown4 hgr4 hat4)
        have h4 : Hid (w5.ownsRow wr.heap.size 5 1 V4 bs.length (bs.map bv) ∧ Below wr.heap.size wr w5) := by
          refine Lib.hid ⟨by have := hown4; rw [Nat.zero_add, List.nil_append] at this; exact this, below_grown (Nat.le_refl _) ((Below.refl _ _).alloc (Nat.le_refl _) _) hgr4 (fun k hk => by injection hk with hk; subst hk; exact Nat.le_refl _)⟩
        clear hown0 hsrc hlb hown4 hgr4 hat4 hu2
        obtain ⟨a7, c7, rfl, b7, n7, l7, m7, t7⟩ := slice_of h4.out.1
        have hp4 := Lib.hid (hp.out.next h4.out.2)
        have hge : ∀ x, a7 = some x → wr.heap.size ≤ x.block := fun x hx => by subst hx; exact owns_base h4.out.1 (k := x.block) (by obtain ⟨b, o, s⟩ := x; rcases ownsRow_forms h4.out.1 with ⟨h, _⟩ | ⟨g, c, h, _⟩ <;> simp at h; obtain ⟨⟨rfl, rfl, rfl⟩, _⟩ := h; rfl)
        have H7 := Lib.hid (And.intro n7 (And.intro hge t7))
        have HA := Lib.hid (add_any q1 (joined l1 i) bs a7 c7 w5 (ktab_below HT.out hp4.out.p1.below) hp4.out.p1.hh b7 (fun x hx _ e => by have := hge x hx; have := hq1lt.out.1; omega) l7 m7 (fun e => by have := HK.out; have := hp.out.p1.o1; omega))
        clear n7 b7 l7 m7 hge t7
        go_upto_region 14 with (go_at_call 14; refine HA.out.mono ?_; rintro e w6 ⟨rfl, hH5, hK5⟩)
        have hP5 := Lib.hid (hp4.out.add hH5 hK5)
        have hM5 : Hid (w6.ownsRow wr.heap.size 5 1 (.slice a7 bs.length c7) bs.length (bs.map bv)) := Lib.hid (hK5.row h4.out.1 (fun k hk e => by have := owns_base h4.out.1 hk; have := hq1lt.out.1; omega))
        have hsz : Hid (w5.heap.size ≤ w6.heap.size) := Lib.hid hK5.size
        have hu2 := HU.out _ hP5.out.p1.below
        have hsrc : Hid ((a1 = none ∧ bs.length = 0 ∧ c1 = 0 ∧ bs.map bv = []) ∨ ∃ ad, a1 = some ad ∧ (bs.map bv).length = bs.length * 1 ∧ ∀ j u, (bs.map bv)[j]? = some u → w6.cell? (ad.add j) = some u) :=
          Lib.hid (src_of (w := w6) w6 (HB0.out _ hP5.out.p1.below) HBN.out (fun b o v hv => hv))
        have hlb : Hid ((joined l1 i).length + bs.length ≤ maxLen ∧ ((joined l1 i).length + bs.length) * 1 ≤ 140737488355328) := Lib.hid (by have := hb20.out; rw [List.length_append] at this; exact ⟨by unfold maxLen; omega, by omega⟩)
        clear hH5 hK5 hp4 HA
        go_upto_region 15 with (refine wpList_append_any rfl (.tmp 71) (.tmp 75) 22 rfl B 5 i0 (.int .u8 0) 1 1 und22 HI.out rfl (by decide) _ (joined l1 i).length ((joined l1 i).map bv) rfl hP5.out.p1.all a1 bs.length c1 (bs.map bv) rfl hsrc.out (by intro u hu; obtain ⟨b, _, rfl⟩ := List.mem_map.1 hu; rfl) hlb.out.1 hlb.out.2 hP5.out.p1.o3 ?_; intro V7 w7 hown7 hgr7 hat7)
        have hlow1 : ∀ k, u10.ownBlock = some k → B ≤ k ∧ k < wr.heap.size := hp.out.p1.all.lt
        have hlow2 : ∀ k, u11.ownBlock = some k → B ≤ k ∧ k < wr.heap.size := hp.out.p2.all.lt
        have hP7 := Lib.hid (hP5.out.grown hown7 hgr7 hat7)
        have hk7 : Kept (fun k => u10.ownBlock = some k) w6 w7 := ⟨hgr7.os, hgr7.tape, hgr7.output, hgr7.size, fun k hk hn => hgr7.block k hk (fun e => hn e.symm)⟩
        have hM7 : w7.ownsRow wr.heap.size 5 1 (.slice a7 bs.length c7) bs.length (bs.map bv) := hk7.row hM5.out (fun k hk e => by have := owns_base hM5.out hk; have := (hlow1 k e).2; omega)
        have hR7 : 0 < bs.length → ∃ (g : Nat) (f : Nat → Bt), a7 = some ⟨g, 0, none⟩ ∧ Row8 w7 g bs.length f := fun h0 => by
          obtain ⟨g, cap', e, _, _, _, _, hr⟩ := row8_of hM7 h0
          injection e with e1
          exact ⟨g, _, e1, hr⟩
        have HR7 := Lib.hid hR7
        have HV7 : Hid (∀ k x, V7.ownBlock = some k → a7 = some x → x.block ≠ k) := Lib.hid (fun k x hk hx e => by
          have h1 := H7.out.2.1 x hx
          have h2 := H7.out.2.2 x hx
          have h3 := hsz.out
          rcases hat7 k hk with h | h
          · have := (hlow1 k h).2; omega
          · omega)
        have HV2 : Hid (∀ k, u11.ownBlock = some k → k < wr.heap.size) := Lib.hid (fun k hk => (hlow2 k hk).2)
        have hbl : (bs.length : Int) ≤ 1048576 := by have := hb20.out; rw [List.length_append] at this; omega
        clear hlow1 hlow2 hown7 hgr7 hat7 hk7 hM7 hR7 hM5 hsz hu2 hsrc hlb hP5
        have HNB : Hid (w.heap.size ≤ wr.heap.size) := Lib.hid hp.out.p1.below.size
        go_wp2_with fail
        go_loopw [79] (fun t y => ∃ k : Nat, k ≤ bs.length ∧ t = .int .i64 k ∧ Hid (Kept (fun b => ∃ x, a7 = some x ∧ x.block = b) w7 y ∧ (0 < bs.length → ∃ (g : Nat) (f : Nat → Bt), a7 = some ⟨g, 0, none⟩ ∧ Row8 y g bs.length f))) (fun t _ => bs.length - (intOf t).toNat)
        case atStart => exact ⟨0, Nat.zero_le _, rfl, Lib.hid ⟨Kept.refl _ _, HR7.out⟩⟩
        case round =>
          obtain ⟨k, hk, rfl, hkk⟩ := hrel
          clear HR7
          by_cases hklt : (k : Int) < (bs.length : Int)
          · have HKL := Lib.hid (show k < bs.length by omega)
            obtain ⟨g, f, rfl, hrow⟩ := hkk.out.2 (by omega)
            have ck : _ = some (Value.int .u8 (Bv (f k))) := hrow.cell k (by omega)
            have fk := hrow.fz k
            go_wp2_with fail
            exact ⟨⟨k + 1, HKL.out, by go_num, Lib.hid ⟨hkk.out.1.setCell (p := ⟨g, k, none⟩) (.inl ⟨⟨g, 0, none⟩, rfl, rfl⟩) _, fun _ => ⟨g, _, rfl, hrow.set k 99#8⟩⟩⟩, by have := HKL.out; simp [intOf]; omega⟩
          · obtain rfl : k = bs.length := by omega
            have hQ : Hid (TwoH w B q1 q2 V7 u11 (joined l1 (i + 1)) (joined l1 (i + 1)) (joined l2 i) (joined l2 i) wr) := by
              rw [HJ.out]
              exact Lib.hid (hP7.out.kept2 hkk.out.1 (fun ⟨x, hx, e⟩ => by have := H7.out.2.1 x hx; have := hq1lt.out.1; omega) (fun ⟨x, hx, e⟩ => by have := H7.out.2.1 x hx; have := hq1lt.out.2; omega)
                (fun k hk ⟨x, hx, e⟩ => HV7.out k x hk hx e) (fun k hk ⟨x, hx, e⟩ => by have := H7.out.2.1 x hx; have := HV2.out k hk; omega) (fun k hk ⟨x, hx, e⟩ => by have := H7.out.2.1 x hx; have := HNB.out; omega))
            clear hkk hP7 HV7 HV2 H7 h4 hp hb20 hbl hklt hk HNB hq1lt
            by_cases h2 : (i : Int) < (l2.length : Int)
            · obtain ⟨b2, o2, a2, c2, bs2, rfl, hu, hbs, hbn, hbc, hbm, hj, hlow⟩ := piece_at (i := i) HL2.out (by omega) 
              have HU2 := Lib.hid hu
              have HBB := Lib.hid hbs
              have HBN2 := Lib.hid hbn
              have HJ2 := Lib.hid hj
              have hb22 : Hid ((joined l2 i ++ bs2).length ≤ 1048576) := Lib.hid (by rw [← hj]; exact Nat.le_trans (joined_le l2 (i + 1)) HC.out.2)
              have HA2 := Lib.hid (add_any q2 (joined l2 i) bs2 a2 c2 wr (ktab_below HT.out hQ.out.p1.below) hQ.out.p2.hh (hbs _ hQ.out.p1.below) (fun x hx h0 e => by have := hlow x hx h0; have := hQ.out.p2.o1; omega) hbc hbm (fun e => by have := HK.out; have := hQ.out.p2.o1; omega))
              have hu2 := hu _ hQ.out.p1.below
              clear hu hbs hbn hbc hbm hj hlow
              go_upto_region 23 with (go_at_call 14; refine HA2.out.mono ?_; rintro e w8 ⟨rfl, hH8, hK8⟩)
              have hP8 := Lib.hid (hQ.out.swap.add hH8 hK8).swap
              have hu3 := HU2.out _ hP8.out.p1.below
              have hsrc2 : Hid ((a2 = none ∧ bs2.length = 0 ∧ c2 = 0 ∧ bs2.map bv = []) ∨ ∃ ad, a2 = some ad ∧ (bs2.map bv).length = bs2.length * 1 ∧ ∀ j u, (bs2.map bv)[j]? = some u → w8.cell? (ad.add j) = some u) :=
                Lib.hid (src_of (w := w8) w8 (HBB.out _ hP8.out.p1.below) HBN2.out (fun b o v hv => hv))
              have hlb2 : Hid ((joined l2 i).length + bs2.length ≤ maxLen ∧ ((joined l2 i).length + bs2.length) * 1 ≤ 140737488355328) := Lib.hid (by have := hb22.out; rw [List.length_append] at this; exact ⟨by unfold maxLen; omega, by omega⟩)
              clear hH8 hK8 hQ HA2 hu2
              go_upto_region 24 with (refine wpList_append_any rfl (.tmp 97) (.tmp 101) 22 rfl B 5 i0 (.int .u8 0) 1 1 und22 HI.out rfl (by decide) _ (joined l2 i).length ((joined l2 i).map bv) rfl hP8.out.p2.all a2 bs2.length c2 (bs2.map bv) rfl hsrc2.out (by intro u hu; obtain ⟨b, _, rfl⟩ := List.mem_map.1 hu; rfl) hlb2.out.1 hlb2.out.2 hP8.out.p1.o3 ?_; intro V9 w9 hown9 hgr9 hat9)
              have hR : Hid (TwoH w B q1 q2 V7 V9 (joined l1 (i + 1)) (joined l1 (i + 1)) (joined l2 (i + 1)) (joined l2 (i + 1)) w9) := by
                rw [HJ2.out]
                exact Lib.hid (hP8.out.swap.grown hown9 hgr9 hat9).swap
              clear hown9 hgr9 hat9 hsrc2 hlb2 hu3 hP8 hb22
              have hJ1 : (joined l1 (i + 1)).length ≤ 1048576 := Nat.le_trans (joined_le l1 (i + 1)) HC.out.1
              have hJ2 : (joined l2 (i + 1)).length ≤ 1048576 := Nat.le_trans (joined_le l2 (i + 1)) HC.out.2
              clear hJ1 hJ2 hlt h1 h2
              have HZ : Hid (∃ la lb : List Bt, la = joined l1 (i + 1) ∧ lb = joined l2 (i + 1)) := Lib.hid ⟨_, _, rfl, rfl⟩
              obtain ⟨la, lb, ela, elb⟩ := HZ.out
              have HLA := Lib.hid ela
              have HLB := Lib.hid elb
              have hR2 : Hid (TwoH w B q1 q2 V7 V9 la la lb lb w9) := by rw [HLA.out, HLB.out]; exact hR
              clear hR HZ ela elb
              have HSA := Lib.hid (hsum_walk permIs q1 la w9 (ktab_below HT.out hR2.out.p1.below) hR2.out.p1.hh)
              go_upto_region 25 with (first
                | (go_at_call 12; refine HSA.out.mono ?_; rintro e wc ⟨rfl, hbc⟩)
                | (refine wpList_store_row rfl 27 (.tmp 15) (.tmp 106) rfl wc.heap.size (tab 32 fun i => bv (sum la i)) rfl rfl 27 z32 (heap_alloc_last wc _) (infH _) (by rw [HZL.out, tab_size]) (one_bv _ _) ?_; rw [World.setRow_alloc_new]; simp only [Act.put]))
              have hC1 : Hid (Below w9.heap.size w9 (wc.alloc (.cells (tab 32 fun i => bv (sum la i)) 27)) ∧ IsTab (wc.alloc (.cells (tab 32 fun i => bv (sum la i)) 27)) wc.heap.size 27 32 (fun i => bv (sum la i))) := Lib.hid ⟨hbc.alloc hbc.size _, IsTab.new wc _ 32 _⟩
              clear hbc HSA
              generalize wc.alloc (.cells (tab 32 fun i => bv (sum la i)) 27) = wd at *
              generalize wc.heap.size = q5 at *
              have hR3 := Lib.hid (hR2.out.next hC1.out.1)
              have HSB := Lib.hid (hsum_walk permIs q2 lb wd (ktab_below HT.out hR3.out.p1.below) hR3.out.p2.hh)
              go_upto_region 26 with (first
                | (go_at_call 12; refine HSB.out.mono ?_; rintro e we ⟨rfl, hbe⟩)
                | (refine wpList_store_row rfl 27 (.tmp 17) (.tmp 111) rfl we.heap.size (tab 32 fun i => bv (sum lb i)) rfl rfl 27 z32 (heap_alloc_last we _) (infH _) (by rw [HZL.out, tab_size]) (one_bv _ _) ?_; rw [World.setRow_alloc_new]; simp only [Act.put]))
              have kb : Below wd.heap.size wd (we.alloc (.cells (tab 32 fun i => bv (sum lb i)) 27)) := hbe.alloc hbe.size _
              have hZ := Lib.hid (pz_of (hR3.out.next kb) (hC1.out.2.below kb) (IsTab.new we _ 32 _))
              clear hbe HSB hR2 hR3 hC1 kb
              generalize we.alloc (.cells (tab 32 fun i => bv (sum lb i)) 27) = wf at *
              generalize we.heap.size = q6 at *
              obtain ⟨aa, ca, ab, cb, eA, eB, HAA, HAB, hPZ⟩ := hZ.out
              subst eA
              subst eB
              have hZ2 := Lib.hid (Pz.drew hPZ)
              have HAA := Lib.hid HAA
              have HAB := Lib.hid HAB
              clear hZ hPZ
              have NE : Nonempty (Wd (Pz w B q1 q2 q5 q6 (.slice aa la.length ca) (.slice ab lb.length cb) aa ab la lb)) := ⟨⟨_, hZ2.out⟩⟩
              have hld5 : ∀ u, (∃ z : Wd (Pz w B q1 q2 q5 q6 (.slice aa la.length ca) (.slice ab lb.length cb) aa ab la lb), u = z.val) → (Instr.loadAt 27 (.pointer (some ⟨q5, 0, none⟩))).run Tryd.prog u = .ok (.agg (tab 32 fun i => bv (sum la i))) u := fun u ⟨z, hz⟩ => by
                rw [hz]; exact loadHs z.ok.t1
              have hld6 : ∀ u, (∃ z : Wd (Pz w B q1 q2 q5 q6 (.slice aa la.length ca) (.slice ab lb.length cb) aa ab la lb), u = z.val) → (Instr.loadAt 27 (.pointer (some ⟨q6, 0, none⟩))).run Tryd.prog u = .ok (.agg (tab 32 fun i => bv (sum lb i))) u := fun u ⟨z, hz⟩ => by
                rw [hz]; exact loadHs z.ok.t2
              have LD5 := Lib.hid hld5
              have LD6 := Lib.hid hld6
              clear hld5 hld6
              have QA := Lib.hid (fun z : Wd (Pz w B q1 q2 q5 q6 (.slice aa la.length ca) (.slice ab lb.length cb) aa ab la lb) => in_of_below z (fun y hb => z.ok.next hb) (sum_walk permIs la aa ca z.val (ktab_below HT.out z.ok.two.p1.below) z.ok.b1 z.ok.lt1 HAA.out.1 HAA.out.2))
              have QB := Lib.hid (fun z : Wd (Pz w B q1 q2 q5 q6 (.slice aa la.length ca) (.slice ab lb.length cb) aa ab la lb) => in_of_below z (fun y hb => z.ok.next hb) (sum_walk permIs lb ab cb z.val (ktab_below HT.out z.ok.two.p1.below) z.ok.b2 z.ok.lt2 HAB.out.1 HAB.out.2))
              have eqa := neq32 (sum la)
              have eqb := neq32 (sum lb)
              generalize (tab 32 fun i => bv (sum la i)) = va at *
              generalize (tab 32 fun i => bv (sum lb i)) = vb at *
              refine wp_region_in (Pz w B q1 q2 q5 q6 (.slice aa la.length ca) (.slice ab lb.length cb) aa ab la lb) (by kernel_rfl) (by kernel_rfl) hZ2.out ?_
              repeat (first
                | (refine wpQuiet_loadg 27 _ (.pointer (some ⟨q5, 0, none⟩)) _ (by rfl) rfl rfl LD5.out ?_; simp only [Act.put, List.setIfInBounds_toArray, List.set_cons_zero, List.set_cons_succ])
                | (refine wpQuiet_loadg 27 _ (.pointer (some ⟨q6, 0, none⟩)) _ (by rfl) rfl rfl LD6.out ?_; simp only [Act.put, List.setIfInBounds_toArray, List.set_cons_zero, List.set_cons_succ])
                | (go_big_quiet_step (first | with_reducible exact QA.out _ | with_reducible exact QB.out _)))
              refine wpQuiet_nil ?_
              rintro _ ⟨z, rfl⟩
              go_wp2_with fail
              exact ⟨⟨i + 1, _, _, HX.out, by go_num, rfl, rfl, Lib.hid (by rw [← HLA.out, ← HLB.out]; exact z.ok.two)⟩, by have := HX.out; simp [intOf]; omega⟩
            · have hR : Hid (TwoH w B q1 q2 V7 u11 (joined l1 (i + 1)) (joined l1 (i + 1)) (joined l2 (i + 1)) (joined l2 (i + 1)) wr) := by rw [joined_more (ls := l2) (by omega)]; exact hQ
              clear hQ
              go_upto_region 24 with (fail)
              have hJ1 : (joined l1 (i + 1)).length ≤ 1048576 := Nat.le_trans (joined_le l1 (i + 1)) HC.out.1
              have hJ2 : (joined l2 (i + 1)).length ≤ 1048576 := Nat.le_trans (joined_le l2 (i + 1)) HC.out.2
              clear hJ1 hJ2 hlt h1 h2
              have HZ : Hid (∃ la lb : List Bt, la = joined l1 (i + 1) ∧ lb = joined l2 (i + 1)) := Lib.hid ⟨_, _, rfl, rfl⟩
              obtain ⟨la, lb, ela, elb⟩ := HZ.out
              have HLA := Lib.hid ela
              have HLB := Lib.hid elb
              have hR2 : Hid (TwoH w B q1 q2 V7 u11 la la lb lb wr) := by rw [HLA.out, HLB.out]; exact hR
              clear hR HZ ela elb
              have HSA := Lib.hid (hsum_walk permIs q1 la wr (ktab_below HT.out hR2.out.p1.below) hR2.out.p1.hh)
              go_upto_region 25 with (first
                | (go_at_call 12; refine HSA.out.mono ?_; rintro e wc ⟨rfl, hbc⟩)
                | (refine wpList_store_row rfl 27 (.tmp 15) (.tmp 106) rfl wc.heap.size (tab 32 fun i => bv (sum la i)) rfl rfl 27 z32 (heap_alloc_last wc _) (infH _) (by rw [HZL.out, tab_size]) (one_bv _ _) ?_; rw [World.setRow_alloc_new]; simp only [Act.put]))
              have hC1 : Hid (Below wr.heap.size wr (wc.alloc (.cells (tab 32 fun i => bv (sum la i)) 27)) ∧ IsTab (wc.alloc (.cells (tab 32 fun i => bv (sum la i)) 27)) wc.heap.size 27 32 (fun i => bv (sum la i))) := Lib.hid ⟨hbc.alloc hbc.size _, IsTab.new wc _ 32 _⟩
              clear hbc HSA
              generalize wc.alloc (.cells (tab 32 fun i => bv (sum la i)) 27) = wd at *
              generalize wc.heap.size = q5 at *
              have hR3 := Lib.hid (hR2.out.next hC1.out.1)
              have HSB := Lib.hid (hsum_walk permIs q2 lb wd (ktab_below HT.out hR3.out.p1.below) hR3.out.p2.hh)
              go_upto_region 26 with (first
                | (go_at_call 12; refine HSB.out.mono ?_; rintro e we ⟨rfl, hbe⟩)
                | (refine wpList_store_row rfl 27 (.tmp 17) (.tmp 111) rfl we.heap.size (tab 32 fun i => bv (sum lb i)) rfl rfl 27 z32 (heap_alloc_last we _) (infH _) (by rw [HZL.out, tab_size]) (one_bv _ _) ?_; rw [World.setRow_alloc_new]; simp only [Act.put]))
              have kb : Below wd.heap.size wd (we.alloc (.cells (tab 32 fun i => bv (sum lb i)) 27)) := hbe.alloc hbe.size _
              have hZ := Lib.hid (pz_of (hR3.out.next kb) (hC1.out.2.below kb) (IsTab.new we _ 32 _))
              clear hbe HSB hR2 hR3 hC1 kb
              generalize we.alloc (.cells (tab 32 fun i => bv (sum lb i)) 27) = wf at *
              generalize we.heap.size = q6 at *
              obtain ⟨aa, ca, ab, cb, eA, eB, HAA, HAB, hPZ⟩ := hZ.out
              subst eA
              subst eB
              have hZ2 := Lib.hid (Pz.drew hPZ)
              have HAA := Lib.hid HAA
              have HAB := Lib.hid HAB
              clear hZ hPZ
              have NE : Nonempty (Wd (Pz w B q1 q2 q5 q6 (.slice aa la.length ca) (.slice ab lb.length cb) aa ab la lb)) := ⟨⟨_, hZ2.out⟩⟩
              have hld5 : ∀ u, (∃ z : Wd (Pz w B q1 q2 q5 q6 (.slice aa la.length ca) (.slice ab lb.length cb) aa ab la lb), u = z.val) → (Instr.loadAt 27 (.pointer (some ⟨q5, 0, none⟩))).run Tryd.prog u = .ok (.agg (tab 32 fun i => bv (sum la i))) u := fun u ⟨z, hz⟩ => by
                rw [hz]; exact loadHs z.ok.t1
              have hld6 : ∀ u, (∃ z : Wd (Pz w B q1 q2 q5 q6 (.slice aa la.length ca) (.slice ab lb.length cb) aa ab la lb), u = z.val) → (Instr.loadAt 27 (.pointer (some ⟨q6, 0, none⟩))).run Tryd.prog u = .ok (.agg (tab 32 fun i => bv (sum lb i))) u := fun u ⟨z, hz⟩ => by
                rw [hz]; exact loadHs z.ok.t2
              have LD5 := Lib.hid hld5
              have LD6 := Lib.hid hld6
              clear hld5 hld6
              have QA := Lib.hid (fun z : Wd (Pz w B q1 q2 q5 q6 (.slice aa la.length ca) (.slice ab lb.length cb) aa ab la lb) => in_of_below z (fun y hb => z.ok.next hb) (sum_walk permIs la aa ca z.val (ktab_below HT.out z.ok.two.p1.below) z.ok.b1 z.ok.lt1 HAA.out.1 HAA.out.2))
              have QB := Lib.hid (fun z : Wd (Pz w B q1 q2 q5 q6 (.slice aa la.length ca) (.slice ab lb.length cb) aa ab la lb) => in_of_below z (fun y hb => z.ok.next hb) (sum_walk permIs lb ab cb z.val (ktab_below HT.out z.ok.two.p1.below) z.ok.b2 z.ok.lt2 HAB.out.1 HAB.out.2))
              have eqa := neq32 (sum la)
              have eqb := neq32 (sum lb)
              generalize (tab 32 fun i => bv (sum la i)) = va at *
              generalize (tab 32 fun i => bv (sum lb i)) = vb at *
              refine wp_region_in (Pz w B q1 q2 q5 q6 (.slice aa la.length ca) (.slice ab lb.length cb) aa ab la lb) (by kernel_rfl) (by kernel_rfl) hZ2.out ?_
              repeat (first
                | (refine wpQuiet_loadg 27 _ (.pointer (some ⟨q5, 0, none⟩)) _ (by rfl) rfl rfl LD5.out ?_; simp only [Act.put, List.setIfInBounds_toArray, List.set_cons_zero, List.set_cons_succ])
                | (refine wpQuiet_loadg 27 _ (.pointer (some ⟨q6, 0, none⟩)) _ (by rfl) rfl rfl LD6.out ?_; simp only [Act.put, List.setIfInBounds_toArray, List.set_cons_zero, List.set_cons_succ])
                | (go_big_quiet_step (first | with_reducible exact QA.out _ | with_reducible exact QB.out _)))
              refine wpQuiet_nil ?_
              rintro _ ⟨z, rfl⟩
              go_wp2_with fail
              exact ⟨⟨i + 1, _, _, HX.out, by go_num, rfl, rfl, Lib.hid (by rw [← HLA.out, ← HLB.out]; exact z.ok.two)⟩, by have := HX.out; simp [intOf]; omega⟩
      · have hQ : Hid (TwoH w B q1 q2 u10 u11 (joined l1 (i + 1)) (joined l1 (i + 1)) (joined l2 i) (joined l2 i) wr) := by rw [joined_more (by omega)]; exact hp
        clear hp hq1lt
        by_cases h2 : (i : Int) < (l2.length : Int)
        · obtain ⟨b2, o2, a2, c2, bs2, rfl, hu, hbs, hbn, hbc, hbm, hj, hlow⟩ := piece_at (i := i) HL2.out (by omega) 
          have HU2 := Lib.hid hu
          have HBB := Lib.hid hbs
          have HBN2 := Lib.hid hbn
          have HJ2 := Lib.hid hj
          have hb22 : Hid ((joined l2 i ++ bs2).length ≤ 1048576) := Lib.hid (by rw [← hj]; exact Nat.le_trans (joined_le l2 (i + 1)) HC.out.2)
          have HA2 := Lib.hid (add_any q2 (joined l2 i) bs2 a2 c2 wr (ktab_below HT.out hQ.out.p1.below) hQ.out.p2.hh (hbs _ hQ.out.p1.below) (fun x hx h0 e => by have := hlow x hx h0; have := hQ.out.p2.o1; omega) hbc hbm (fun e => by have := HK.out; have := hQ.out.p2.o1; omega))
          have hu2 := hu _ hQ.out.p1.below
          clear hu hbs hbn hbc hbm hj hlow
          go_upto_region 23 with (go_at_call 14; refine HA2.out.mono ?_; rintro e w8 ⟨rfl, hH8, hK8⟩)
          have hP8 := Lib.hid (hQ.out.swap.add hH8 hK8).swap
          have hu3 := HU2.out _ hP8.out.p1.below
          have hsrc2 : Hid ((a2 = none ∧ bs2.length = 0 ∧ c2 = 0 ∧ bs2.map bv = []) ∨ ∃ ad, a2 = some ad ∧ (bs2.map bv).length = bs2.length * 1 ∧ ∀ j u, (bs2.map bv)[j]? = some u → w8.cell? (ad.add j) = some u) :=
            Lib.hid (src_of (w := w8) w8 (HBB.out _ hP8.out.p1.below) HBN2.out (fun b o v hv => hv))
          have hlb2 : Hid ((joined l2 i).length + bs2.length ≤ maxLen ∧ ((joined l2 i).length + bs2.length) * 1 ≤ 140737488355328) := Lib.hid (by have := hb22.out; rw [List.length_append] at this; exact ⟨by unfold maxLen; omega, by omega⟩)
          clear hH8 hK8 hQ HA2 hu2
          go_upto_region 24 with (refine wpList_append_any rfl (.tmp 97) (.tmp 101) 22 rfl B 5 i0 (.int .u8 0) 1 1 und22 HI.out rfl (by decide) _ (joined l2 i).length ((joined l2 i).map bv) rfl hP8.out.p2.all a2 bs2.length c2 (bs2.map bv) rfl hsrc2.out (by intro u hu; obtain ⟨b, _, rfl⟩ := List.mem_map.1 hu; rfl) hlb2.out.1 hlb2.out.2 hP8.out.p1.o3 ?_; intro V9 w9 hown9 hgr9 hat9)
          have hR : Hid (TwoH w B q1 q2 u10 V9 (joined l1 (i + 1)) (joined l1 (i + 1)) (joined l2 (i + 1)) (joined l2 (i + 1)) w9) := by
            rw [HJ2.out]
            exact Lib.hid (hP8.out.swap.grown hown9 hgr9 hat9).swap
          clear hown9 hgr9 hat9 hsrc2 hlb2 hu3 hP8 hb22
          have hJ1 : (joined l1 (i + 1)).length ≤ 1048576 := Nat.le_trans (joined_le l1 (i + 1)) HC.out.1
          have hJ2 : (joined l2 (i + 1)).length ≤ 1048576 := Nat.le_trans (joined_le l2 (i + 1)) HC.out.2
          clear hJ1 hJ2 hlt h1 h2
          have HZ : Hid (∃ la lb : List Bt, la = joined l1 (i + 1) ∧ lb = joined l2 (i + 1)) := Lib.hid ⟨_, _, rfl, rfl⟩
          obtain ⟨la, lb, ela, elb⟩ := HZ.out
          have HLA := Lib.hid ela
          have HLB := Lib.hid elb
          have hR2 : Hid (TwoH w B q1 q2 u10 V9 la la lb lb w9) := by rw [HLA.out, HLB.out]; exact hR
          clear hR HZ ela elb
          have HSA := Lib.hid (hsum_walk permIs q1 la w9 (ktab_below HT.out hR2.out.p1.below) hR2.out.p1.hh)
          go_upto_region 25 with (first
            | (go_at_call 12; refine HSA.out.mono ?_; rintro e wc ⟨rfl, hbc⟩)
            | (refine wpList_store_row rfl 27 (.tmp 15) (.tmp 106) rfl wc.heap.size (tab 32 fun i => bv (sum la i)) rfl rfl 27 z32 (heap_alloc_last wc _) (infH _) (by rw [HZL.out, tab_size]) (one_bv _ _) ?_; rw [World.setRow_alloc_new]; simp only [Act.put]))
          have hC1 : Hid (Below w9.heap.size w9 (wc.alloc (.cells (tab 32 fun i => bv (sum la i)) 27)) ∧ IsTab (wc.alloc (.cells (tab 32 fun i => bv (sum la i)) 27)) wc.heap.size 27 32 (fun i => bv (sum la i))) := Lib.hid ⟨hbc.alloc hbc.size _, IsTab.new wc _ 32 _⟩
          clear hbc HSA
          generalize wc.alloc (.cells (tab 32 fun i => bv (sum la i)) 27) = wd at *
          generalize wc.heap.size = q5 at *
          have hR3 := Lib.hid (hR2.out.next hC1.out.1)
          have HSB := Lib.hid (hsum_walk permIs q2 lb wd (ktab_below HT.out hR3.out.p1.below) hR3.out.p2.hh)
          go_upto_region 26 with (first
            | (go_at_call 12; refine HSB.out.mono ?_; rintro e we ⟨rfl, hbe⟩)
            | (refine wpList_store_row rfl 27 (.tmp 17) (.tmp 111) rfl we.heap.size (tab 32 fun i => bv (sum lb i)) rfl rfl 27 z32 (heap_alloc_last we _) (infH _) (by rw [HZL.out, tab_size]) (one_bv _ _) ?_; rw [World.setRow_alloc_new]; simp only [Act.put]))
          have kb : Below wd.heap.size wd (we.alloc (.cells (tab 32 fun i => bv (sum lb i)) 27)) := hbe.alloc hbe.size _
          have hZ := Lib.hid (pz_of (hR3.out.next kb) (hC1.out.2.below kb) (IsTab.new we _ 32 _))
          clear hbe HSB hR2 hR3 hC1 kb
          generalize we.alloc (.cells (tab 32 fun i => bv (sum lb i)) 27) = wf at *
          generalize we.heap.size = q6 at *
          obtain ⟨aa, ca, ab, cb, eA, eB, HAA, HAB, hPZ⟩ := hZ.out
          subst eA
          subst eB
          have hZ2 := Lib.hid (Pz.drew hPZ)
          have HAA := Lib.hid HAA
          have HAB := Lib.hid HAB
          clear hZ hPZ
          have NE : Nonempty (Wd (Pz w B q1 q2 q5 q6 (.slice aa la.length ca) (.slice ab lb.length cb) aa ab la lb)) := ⟨⟨_, hZ2.out⟩⟩
          have hld5 : ∀ u, (∃ z : Wd (Pz w B q1 q2 q5 q6 (.slice aa la.length ca) (.slice ab lb.length cb) aa ab la lb), u = z.val) → (Instr.loadAt 27 (.pointer (some ⟨q5, 0, none⟩))).run Tryd.prog u = .ok (.agg (tab 32 fun i => bv (sum la i))) u := fun u ⟨z, hz⟩ => by
            rw [hz]; exact loadHs z.ok.t1
          have hld6 : ∀ u, (∃ z : Wd (Pz w B q1 q2 q5 q6 (.slice aa la.length ca) (.slice ab lb.length cb) aa ab la lb), u = z.val) → (Instr.loadAt 27 (.pointer (some ⟨q6, 0, none⟩))).run Tryd.prog u = .ok (.agg (tab 32 fun i => bv (sum lb i))) u := fun u ⟨z, hz⟩ => by
            rw [hz]; exact loadHs z.ok.t2
          have LD5 := Lib.hid hld5
          have LD6 := Lib.hid hld6
          clear hld5 hld6
          have QA := Lib.hid (fun z : Wd (Pz w B q1 q2 q5 q6 (.slice aa la.length ca) (.slice ab lb.length cb) aa ab la lb) => in_of_below z (fun y hb => z.ok.next hb) (sum_walk permIs la aa ca z.val (ktab_below HT.out z.ok.two.p1.below) z.ok.b1 z.ok.lt1 HAA.out.1 HAA.out.2))
          have QB := Lib.hid (fun z : Wd (Pz w B q1 q2 q5 q6 (.slice aa la.length ca) (.slice ab lb.length cb) aa ab la lb) => in_of_below z (fun y hb => z.ok.next hb) (sum_walk permIs lb ab cb z.val (ktab_below HT.out z.ok.two.p1.below) z.ok.b2 z.ok.lt2 HAB.out.1 HAB.out.2))
          have eqa := neq32 (sum la)
          have eqb := neq32 (sum lb)
          generalize (tab 32 fun i => bv (sum la i)) = va at *
          generalize (tab 32 fun i => bv (sum lb i)) = vb at *
          refine wp_region_in (Pz w B q1 q2 q5 q6 (.slice aa la.length ca) (.slice ab lb.length cb) aa ab la lb) (by kernel_rfl) (by kernel_rfl) hZ2.out ?_
          repeat (first
            | (refine wpQuiet_loadg 27 _ (.pointer (some ⟨q5, 0, none⟩)) _ (by rfl) rfl rfl LD5.out ?_; simp only [Act.put, List.setIfInBounds_toArray, List.set_cons_zero, List.set_cons_succ])
            | (refine wpQuiet_loadg 27 _ (.pointer (some ⟨q6, 0, none⟩)) _ (by rfl) rfl rfl LD6.out ?_; simp only [Act.put, List.setIfInBounds_toArray, List.set_cons_zero, List.set_cons_succ])
            | (go_big_quiet_step (first | with_reducible exact QA.out _ | with_reducible exact QB.out _)))
          refine wpQuiet_nil ?_
          rintro _ ⟨z, rfl⟩
          go_wp2_with fail
          exact ⟨⟨i + 1, _, _, HX.out, by go_num, rfl, rfl, Lib.hid (by rw [← HLA.out, ← HLB.out]; exact z.ok.two)⟩, by have := HX.out; simp [intOf]; omega⟩
        · have hR : Hid (TwoH w B q1 q2 u10 u11 (joined l1 (i + 1)) (joined l1 (i + 1)) (joined l2 (i + 1)) (joined l2 (i + 1)) wr) := by rw [joined_more (ls := l2) (by omega)]; exact hQ
          clear hQ
          go_upto_region 24 with (fail)
          have hJ1 : (joined l1 (i + 1)).length ≤ 1048576 := Nat.le_trans (joined_le l1 (i + 1)) HC.out.1
          have hJ2 : (joined l2 (i + 1)).length ≤ 1048576 := Nat.le_trans (joined_le l2 (i + 1)) HC.out.2
          clear hJ1 hJ2 hlt h1 h2
          have HZ : Hid (∃ la lb : List Bt, la = joined l1 (i + 1) ∧ lb = joined l2 (i + 1)) := Lib.hid ⟨_, _, rfl, rfl⟩
          obtain ⟨la, lb, ela, elb⟩ := HZ.out
          have HLA := Lib.hid ela
          have HLB := Lib.hid elb
          have hR2 : Hid (TwoH w B q1 q2 u10 u11 la la lb lb wr) := by rw [HLA.out, HLB.out]; exact hR
          clear hR HZ ela elb
          have HSA := Lib.hid (hsum_walk permIs q1 la wr (ktab_below HT.out hR2.out.p1.below) hR2.out.p1.hh)
          go_upto_region 25 with (first
            | (go_at_call 12; refine HSA.out.mono ?_; rintro e wc ⟨rfl, hbc⟩)
            | (refine wpList_store_row rfl 27 (.tmp 15) (.tmp 106) rfl wc.heap.size (tab 32 fun i => bv (sum la i)) rfl rfl 27 z32 (heap_alloc_last wc _) (infH _) (by rw [HZL.out, tab_size]) (one_bv _ _) ?_; rw [World.setRow_alloc_new]; simp only [Act.put]))
          have hC1 : Hid (Below wr.heap.size wr (wc.alloc (.cells (tab 32 fun i => bv (sum la i)) 27)) ∧ IsTab (wc.alloc (.cells (tab 32 fun i => bv (sum la i)) 27)) wc.heap.size 27 32 (fun i => bv (sum la i))) := Lib.hid ⟨hbc.alloc hbc.size _, IsTab.new wc _ 32 _⟩
          clear hbc HSA
          generalize wc.alloc (.cells (tab 32 fun i => bv (sum la i)) 27) = wd at *
          generalize wc.heap.size = q5 at *
          have hR3 := Lib.hid (hR2.out.next hC1.out.1)
          have HSB := Lib.hid (hsum_walk permIs q2 lb wd (ktab_below HT.out hR3.out.p1.below) hR3.out.p2.hh)
          go_upto_region 26 with (first
            | (go_at_call 12; refine HSB.out.mono ?_; rintro e we ⟨rfl, hbe⟩)
            | (refine wpList_store_row rfl 27 (.tmp 17) (.tmp 111) rfl we.heap.size (tab 32 fun i => bv (sum lb i)) rfl rfl 27 z32 (heap_alloc_last we _) (infH _) (by rw [HZL.out, tab_size]) (one_bv _ _) ?_; rw [World.setRow_alloc_new]; simp only [Act.put]))
          have kb : Below wd.heap.size wd (we.alloc (.cells (tab 32 fun i => bv (sum lb i)) 27)) := hbe.alloc hbe.size _
          have hZ := Lib.hid (pz_of (hR3.out.next kb) (hC1.out.2.below kb) (IsTab.new we _ 32 _))
          clear hbe HSB hR2 hR3 hC1 kb
          generalize we.alloc (.cells (tab 32 fun i => bv (sum lb i)) 27) = wf at *
          generalize we.heap.size = q6 at *
          obtain ⟨aa, ca, ab, cb, eA, eB, HAA, HAB, hPZ⟩ := hZ.out
          subst eA
          subst eB
          have hZ2 := Lib.hid (Pz.drew hPZ)
          have HAA := Lib.hid HAA
          have HAB := Lib.hid HAB
          clear hZ hPZ
          have NE : Nonempty (Wd (Pz w B q1 q2 q5 q6 (.slice aa la.length ca) (.slice ab lb.length cb) aa ab la lb)) := ⟨⟨_, hZ2.out⟩⟩
          have hld5 : ∀ u, (∃ z : Wd (Pz w B q1 q2 q5 q6 (.slice aa la.length ca) (.slice ab lb.length cb) aa ab la lb), u = z.val) → (Instr.loadAt 27 (.pointer (some ⟨q5, 0, none⟩))).run Tryd.prog u = .ok (.agg (tab 32 fun i => bv (sum la i))) u := fun u ⟨z, hz⟩ => by
            rw [hz]; exact loadHs z.ok.t1
          have hld6 : ∀ u, (∃ z : Wd (Pz w B q1 q2 q5 q6 (.slice aa la.length ca) (.slice ab lb.length cb) aa ab la lb), u = z.val) → (Instr.loadAt 27 (.pointer (some ⟨q6, 0, none⟩))).run Tryd.prog u = .ok (.agg (tab 32 fun i => bv (sum lb i))) u := fun u ⟨z, hz⟩ => by
            rw [hz]; exact loadHs z.ok.t2
          have LD5 := Lib.hid hld5
          have LD6 := Lib.hid hld6
          clear hld5 hld6
          have QA := Lib.hid (fun z : Wd (Pz w B q1 q2 q5 q6 (.slice aa la.length ca) (.slice ab lb.length cb) aa ab la lb) => in_of_below z (fun y hb => z.ok.next hb) (sum_walk permIs la aa ca z.val (ktab_below HT.out z.ok.two.p1.below) z.ok.b1 z.ok.lt1 HAA.out.1 HAA.out.2))
          have QB := Lib.hid (fun z : Wd (Pz w B q1 q2 q5 q6 (.slice aa la.length ca) (.slice ab lb.length cb) aa ab la lb) => in_of_below z (fun y hb => z.ok.next hb) (sum_walk permIs lb ab cb z.val (ktab_below HT.out z.ok.two.p1.below) z.ok.b2 z.ok.lt2 HAB.out.1 HAB.out.2))
          have eqa := neq32 (sum la)
          have eqb := neq32 (sum lb)
          generalize (tab 32 fun i => bv (sum la i)) = va at *
          generalize (tab 32 fun i => bv (sum lb i)) = vb at *
          refine wp_region_in (Pz w B q1 q2 q5 q6 (.slice aa la.length ca) (.slice ab lb.length cb) aa ab la lb) (by kernel_rfl) (by kernel_rfl) hZ2.out ?_
          repeat (first
            | (refine wpQuiet_loadg 27 _ (.pointer (some ⟨q5, 0, none⟩)) _ (by rfl) rfl rfl LD5.out ?_; simp only [Act.put, List.setIfInBounds_toArray, List.set_cons_zero, List.set_cons_succ])
            | (refine wpQuiet_loadg 27 _ (.pointer (some ⟨q6, 0, none⟩)) _ (by rfl) rfl rfl LD6.out ?_; simp only [Act.put, List.setIfInBounds_toArray, List.set_cons_zero, List.set_cons_succ])
            | (go_big_quiet_step (first | with_reducible exact QA.out _ | with_reducible exact QB.out _)))
          refine wpQuiet_nil ?_
          rintro _ ⟨z, rfl⟩
          go_wp2_with fail
          exact ⟨⟨i + 1, _, _, HX.out, by go_num, rfl, rfl, Lib.hid (by rw [← HLA.out, ← HLB.out]; exact z.ok.two)⟩, by have := HX.out; simp [intOf]; omega⟩
    · go_wp2_with fail
      go_ret
      exact ⟨rfl, hp.out.p1.below⟩
end Kc
end Go.Proofs.YtdmbmilfclllaaaDoor
