/- Merged of LdgE LdgP. Own work. -/
import Derived.Test.YtnaamljflcgepaaGreatDoorP08
import Derived.Test.YtnaamljflcgepaaGreatDoorP02
import Derived.Test.YtnaamljflcgepaaGreatDoorP05
namespace Go.Proofs.YtnaamljflcgepaaGreatDoor
open Go.RowKit
set_option linter.unusedVariables false
namespace Ev
theorem eqB (a b : Int) (h : a = b) : (a == b) = true := by simp [h]
theorem neB (a b : Int) (h : ¬ a = b) : (a == b) = false := by simp [h]
theorem bal_p {L : LedS} {l : List Ev} (r : Rel L l) (ok : L.Ok) (p : Int) (h0 : 0 ≤ p) (h8 : p < 8) (V : Value) (B : Nat) (w : World) (hown : w.ownsRow B 124 4 V l.length (cells l)) (hl : (l.length : Int) ≤ 1000) :
    Calls Tryz.prog 55 #[.agg #[V], .int .i64 p] w fun e w' => e = .returned (.int .u64 (L.bal p.toNat)) ∧ Below w.heap.size w w' := by
  obtain ⟨i, rfl⟩ := Int.eq_ofNat_of_zero_le h0
  have hb := r.bal i (by omega)
  have h1 := ok.bal0 i (by omega)
  have b3 := sumF_bd 3 i l (fun x hx => (r.nn x hx).1)
  rw [Int.toNat_natCast, hb]
  exact balance_is i l V B w hown hl r.nn (by omega) (by omega)
set_option maxHeartbeats 8000000 in
set_option maxRecDepth 100000 in
theorem do_is (tb : Nat) (x : Ev) (L : LedS) (l : List Ev) (w : World) (hr : RefL w tb l) (rel : Rel L l) (ok : L.Ok) (hl : (l.length : Int) ≤ 200) (hk1 : 1 ≤ x.k) (hk4 : x.k ≤ 4) (v0 : 0 ≤ x.v) (v1 : x.v ≤ 18446744073709551615) :
    Calls Tryz.prog 43 #[.pointer (some ⟨tb, 0, none⟩), .agg #[.int .i64 x.k, .int .i64 x.p, .int .i64 x.b, .int .u64 x.v]] w fun e w' => e = .returned (.tuple #[.int .i64 (doR L x), .int .i64 (doN L x)]) ∧ RefL w' tb (doE L x l) ∧ MovesS tb 0 w w' := by
  obtain ⟨V, hV, hown⟩ := hr.row
  have hs : InDo w tb w.heap.size x l V (w.alloc (.cells #[.int .i64 x.k, .int .i64 x.p, .int .i64 x.b, .int .u64 x.v] 124)) := by
    refine ⟨by rw [World.cell?_alloc_lt _ _ _ (inHeap hV)]; exact hV, hown.alloc _, by simp, by simp, by simp, by simp, ?_, fun o => by simp, (Below.refl _ _).alloc (Nat.le_refl _) _, Nat.le_refl _, inHeap hV, fun k hk => (hown.lt k hk).2⟩
    rw [World.frozen?_alloc_old _ _ _ (by have := inHeap hV; simp; omega)]; exact hr.fz
  have HV := Lib.hid hV
  have HR := Lib.hid hr
  have HS := Lib.hid hs
  have REL := Lib.hid rel
  have OK := Lib.hid ok
  clear hV hown hr hs rel ok
  by_cases hp : x.p < 0 ∨ 8 ≤ x.p
  · obtain ⟨d1, d2⟩ := do_bad (L := L) hp
    have HE : Hid (doE L x l = l) := if_neg (by rw [d1]; decide)
    have D1 := Lib.hid d1
    have D2 := Lib.hid d2
    clear d1 d2
    rcases hp with hp | hp
    all_goals
      go_enter Tryz.func43, Tryz.ntmps43
      go_wp2_with fail
      go_ret2
      exact ⟨by rw [D1.out, D2.out]; rfl, by rw [HE.out]; exact HS.out.refl', HS.out.moves HV.out⟩
  · have hp0 : 0 ≤ x.p := by omega
    have hp8 : x.p < 8 := by omega
    clear hp
    obtain ⟨A, c, rfl⟩ : ∃ A c, V = .slice A l.length c := by
      rcases ownsRow_forms HS.out.own with ⟨rfl, h0⟩ | ⟨g, c, rfl, _⟩
      · exact ⟨none, 0, by rw [h0]⟩
      · exact ⟨_, _, rfl⟩
    go_enter Tryz.func43, Tryz.ntmps43
    go_wp2_with fail
    generalize hq : w.heap.size = q at *
    have HQ := Lib.hid hq
    clear hq
    generalize w.alloc (.cells #[.int .i64 x.k, .int .i64 x.p, .int .i64 x.b, .int .u64 x.v] 124) = w1 at *
    go_loopw [6, 7, 8, 9] (fun lk v g i y => ∃ n : Nat, n ≤ l.length ∧ i = .int .i64 n ∧ lk = .int .i64 ((scan x.b (l.take n)).1 : Nat) ∧ v = .int .u64 (scan x.b (l.take n)).2.1 ∧ g = .bool (scan x.b (l.take n)).2.2 ∧ InDo w tb q x l (.slice A l.length c) y) (fun _ _ _ i _ => l.length - (intOf i).toNat)
    case atStart => exact ⟨0, Nat.zero_le _, rfl, rfl, rfl, rfl, HS.out⟩
    case round =>
      obtain ⟨n, hn, rfl, rfl, rfl, rfl, s⟩ := hrel
      by_cases hlt : n < l.length
      · obtain ⟨g, rfl⟩ : ∃ g, A = some ⟨g, 0, none⟩ := by
          rcases ownsRow_forms s.own with ⟨_, h0⟩ | ⟨g, c, h1, _⟩
          · omega
          · injection h1 with h1; exact ⟨g, h1⟩
        obtain ⟨c0, c1, c2, c3⟩ := cells_at l n hlt
        have hcl := cells_len l
        have d0 := (s.own.cellAt (n * 4) (by omega)).trans c0
        have d1 := (s.own.cellAt (n * 4 + 1) (by omega)).trans c1
        have d2 := (s.own.cellAt (n * 4 + 2) (by omega)).trans c2
        have d3 := (s.own.cellAt (n * 4 + 3) (by omega)).trans c3
        have hsl := scan_len x.b (l.take n) (0, 0, false)
        rw [List.length_take] at hsl
        have HSC : Hid (scan x.b (l.take (n + 1)) = step x.b (scan x.b (l.take n)) l[n]) := by rw [take_succ hlt, scan_app]; rfl
        have hlk : ((scan x.b (l.take n)).1 : Int) ≤ 200 := by unfold scan; simp at hsl; omega
        generalize l[n] = z at *
        generalize scan x.b (l.take n) = S at *
        obtain ⟨lk, v, g⟩ := S
        have t0 := s.tc
        have e0 := s.c0
        have e2 := s.c2
        have hs2 := s.next ((Below.refl _ _).alloc (Nat.le_refl _) (.cells #[.int .i64 z.k, .int .i64 z.p, .int .i64 z.b, .int .u64 z.v] 124))
        have f0 := hs2.c0
        have f2 := hs2.c2
        have HS2 := Lib.hid hs2
        clear c0 c1 c2 c3 hcl hsl hs2
        simp only at hlk
        by_cases k3 : z.k = 3
        · have b3 := eqB _ _ k3
          have b4 := neB z.k 4 (by omega)
          by_cases kb : (lk : Int) = x.b
          · have bb := eqB _ _ kb
            have HF := Lib.hid (HSC.out.trans (show step x.b (lk, v, g) z = (lk + 1, z.v, g) by unfold step; simp [k3, kb]))
            clear HSC k3 kb
            cases g
            all_goals
              go_wp2
              go_roundw
              case rel => exact ⟨n + 1, by omega, by go_num, by first | (rw [HF.out]; done) | (rw [HF.out]; rfl) | (rw [HF.out]; go_num), by rw [HF.out], by rw [HF.out], HS2.out⟩
              case measure => simp [intOf]; omega
          · have bb := neB _ _ kb
            have HF := Lib.hid (HSC.out.trans (show step x.b (lk, v, g) z = (lk + 1, v, g) by unfold step; simp [k3, kb]))
            clear HSC k3 kb
            cases g
            all_goals
              go_wp2
              go_roundw
              case rel => exact ⟨n + 1, by omega, by go_num, by first | (rw [HF.out]; done) | (rw [HF.out]; rfl) | (rw [HF.out]; go_num), by rw [HF.out], by rw [HF.out], HS2.out⟩
              case measure => simp [intOf]; omega
        · have b3 := neB _ _ k3
          by_cases k4 : z.k = 4
          · have b4 := eqB _ _ k4
            by_cases kb : z.b = x.b
            · have bb := eqB _ _ kb
              have HF := Lib.hid (HSC.out.trans (show step x.b (lk, v, g) z = (lk, v, true) by unfold step; simp [k4, kb]))
              clear HSC k3 k4 kb
              cases g
              all_goals
                go_wp2
                go_roundw
                case rel => exact ⟨n + 1, by omega, by go_num, by first | (rw [HF.out]; done) | (rw [HF.out]; rfl) | (rw [HF.out]; go_num), by rw [HF.out], by rw [HF.out], HS2.out⟩
                case measure => simp [intOf]; omega
            · have bb := neB _ _ kb
              have HF := Lib.hid (HSC.out.trans (show step x.b (lk, v, g) z = (lk, v, g) by unfold step; simp [k4, kb]))
              clear HSC k3 k4 kb
              cases g
              all_goals
                go_wp2
                go_roundw
                case rel => exact ⟨n + 1, by omega, by go_num, by first | (rw [HF.out]; done) | (rw [HF.out]; rfl) | (rw [HF.out]; go_num), by rw [HF.out], by rw [HF.out], HS2.out⟩
                case measure => simp [intOf]; omega
          · have b4 := neB _ _ k4
            have HF := Lib.hid (HSC.out.trans (show step x.b (lk, v, g) z = (lk, v, g) by unfold step; simp [k3, k4]))
            clear HSC k3 k4
            cases g
            all_goals
              go_wp2
              go_roundw
              case rel => exact ⟨n + 1, by omega, by go_num, by first | (rw [HF.out]; done) | (rw [HF.out]; rfl) | (rw [HF.out]; go_num), by rw [HF.out], by rw [HF.out], HS2.out⟩
              case measure => simp [intOf]; omega
      · have hnl : l.take n = l := List.take_of_length_le (by omega)
        have hsc := REL.out.scan x.b
        rw [hnl, hsc]
        dsimp only
        clear hnl hsc
        have hnb : ((L.bonds.length : Nat) : Int) ≤ 200 := by have := bonds_len REL.out; omega
        generalize hvb : (if x.b < 0 then 0 else (L.bonds[x.b.toNat]?.map Prod.fst).getD 0) = vb
        generalize hgb : (if x.b < 0 then false else (L.bonds[x.b.toNat]?.map Prod.snd).getD false) = gb
        have HVB := Lib.hid hvb
        have HGB := Lib.hid hgb
        clear hvb hgb
        have hge : ¬ ((n : Int) < (l.length : Int)) := by omega
        have NE : Nonempty (Wd (InDo w tb q x l (.slice A l.length c))) := ⟨⟨_, s⟩⟩
        obtain ⟨i0, HI'⟩ := info_parts evInfo
        have HI := Lib.hid HI'
        clear HI'
        have t0 := s.tc
        have e0 := s.c0
        have e1 := s.c1
        have e2 := s.c2
        have e3 := s.c3
        have hpin0 : 0 ≤ L.pin := by have := LedS.bal_le OK.out (i := 0) (by omega); have := OK.out.bal0 0 (by omega); have := OK.out.pout0; omega
        by_cases k1 : x.k = 1
        · have b1 := eqB _ _ k1
          have b13 := neB x.k 3 (by omega)
          have K1 := Lib.hid k1
          clear k1
          by_cases hv : 281474976710656 < x.v
          · have hd : decide (281474976710656 < x.v) = true := by simpa using hv
            have hN : doN L x = 2 := by unfold doN LedS.payIn; rw [if_pos K1.out, if_neg (by omega), if_pos (by omega)]
            have hR : doR L x = 0 := by unfold doR; rw [if_neg (by rw [K1.out]; decide)]
            have HE : Hid (doE L x l = l) := if_neg (by rw [hN]; decide)
            have HN := Lib.hid hN
            have HRR := Lib.hid hR
            clear hN hR hv
            go_wp2_with fail
            go_quiet (fail)
            go_wp2_with fail
            go_ret2
            have s2 := s.next (below_drewN (Below.refl _ _) nq)
            exact ⟨by rw [HN.out, HRR.out]; rfl, by rw [HE.out]; exact s2.refl', s2.moves HV.out⟩
          · have hd : decide (281474976710656 < x.v) = false := by simpa using hv
            have hpm := OK.out.most
            have hwr : IntKind.u64.wrap (L.pin + x.v) = L.pin + x.v := by simp [IntKind.wrap, IntKind.bits, IntKind.signed]; omega
            have hcell : ∀ s : Wd (InDo w tb q x l (.slice A l.length c)), s.val.cell? ⟨tb, 0, none⟩ = some (.slice A l.length c) := fun s => s.ok.tc
            have hcel3 : ∀ s : Wd (InDo w tb q x l (.slice A l.length c)), s.val.cell? ⟨q, 3, none⟩ = some (.int .u64 x.v) := fun s => s.ok.c3
            have Q1 := Lib.hid (fun s : Wd (InDo w tb q x l (.slice A l.length c)) => in_of_below s (fun y hb => s.ok.next hb) (sum_is 1 (-1) l (.slice A l.length c) (tb + 1) s.val s.ok.own (by omega) REL.out.nn))
            rw [← REL.out.pin] at Q1
            by_cases hg : 281474976710656 < L.pin + x.v
            · have hd2 : decide (281474976710656 < L.pin + x.v) = true := by simpa using hg
              go_wp2_with fail
              refine wp_region_in (InDo w tb q x l (.slice A l.length c)) (by kernel_rfl) (by kernel_rfl) s.drew ?_
              repeat (go_big_quiet_step (with_reducible exact Q1.out _))
              clear Q1 hcell hcel3 hwr t0 e0 e1 e2 e3
              refine wpQuiet_nil ?_
              rintro y ⟨⟨_, s⟩, rfl⟩
              have hN : doN L x = 2 := by unfold doN LedS.payIn; rw [if_pos K1.out, if_neg (by omega), if_pos (by omega)]
              have hR : doR L x = 0 := by unfold doR; rw [if_neg (by rw [K1.out]; decide)]
              have HE : Hid (doE L x l = l) := if_neg (by rw [hN]; decide)
              have HN := Lib.hid hN
              have HRR := Lib.hid hR
              clear hN hR hg
              go_wp2_with fail
              go_ret2
              exact ⟨by rw [HN.out, HRR.out]; rfl, by rw [HE.out]; exact s.refl', s.moves HV.out⟩
            · have hd2 : decide (281474976710656 < L.pin + x.v) = false := by simpa using hg
              go_wp2_with fail
              refine wp_region_in (InDo w tb q x l (.slice A l.length c)) (by kernel_rfl) (by kernel_rfl) s.drew ?_
              repeat (go_big_quiet_step (with_reducible exact Q1.out _))
              clear Q1 hcell hcel3 hwr t0 e0 e1 e2 e3
              refine wpQuiet_nil ?_
              rintro y ⟨⟨_, s⟩, rfl⟩
              have hN : doN L x = 0 := by unfold doN LedS.payIn; rw [if_pos K1.out, if_neg (by omega), if_neg (by omega)]
              have hR : doR L x = 0 := by unfold doR; rw [if_neg (by rw [K1.out]; decide)]
              have hE : doE L x l = l ++ [x] := by unfold doE doX; rw [if_pos hN, if_neg (by rw [K1.out]; decide)]
              clear hg
              have HE := Lib.hid hE
              have HN := Lib.hid hN
              have HRR := Lib.hid hR
              have HI2 := HI.out
              clear hN hR hE
              have t0 := s.tc
              have e0 : y.cell? ⟨q, 0, none⟩ = some (.int .i64 x.k) := s.c0
              have e1 : y.cell? ⟨q, 1, none⟩ = some (.int .i64 x.p) := s.c1
              have e2 : y.cell? ⟨q, 2, none⟩ = some (.int .i64 x.b) := s.c2
              have e3 : y.cell? ⟨q, 3, none⟩ = some (.int .u64 x.v) := s.c3
              have ft := s.ft
              have a0 : (y.alloc (.cells #[.int .i64 x.k, .int .i64 x.p, .int .i64 x.b, .int .u64 x.v] 124)).cell? ⟨tb, 0, none⟩ = some (.slice A l.length c) := by rw [World.cell?_alloc_lt _ _ _ (inHeap t0)]; exact t0
              go_wp2_with fail
              go_region_law (refine step_append_at _ rfl _ _ 119 rfl (tb + 1) 124 i0 (.agg #[.int .i64 0, .int .i64 0, .int .i64 0, .int .u64 0]) 4 32 Tryz.underlying119 HI2 rfl (by decide) (.slice A l.length c) l.length (cells l) (by rfl) (s.own.alloc _) ⟨y.heap.size, 0, none⟩ 1 1 [.int .i64 x.k, .int .i64 x.p, .int .i64 x.b, .int .u64 x.v] (by rfl) rfl (four_at (by rfl) _ _ _ _ _) (by intro u hu; simp at hu; rcases hu with rfl | rfl | rfl | rfl <;> rfl) (by unfold maxLen; omega) (by omega) (by have := inHeap t0; simp; omega) ?_; intro V' w2 hown1 hgrow hwhere; obtain ⟨r1, r2, r0, r3, r4⟩ := s.app (t := 124) HV.out hown1 ⟨hgrow.os, hgrow.tape, hgrow.output, hgrow.size, hgrow.block⟩ hwhere; obtain ⟨A', c', rfl⟩ : ∃ A c, V' = .slice A (l.length + 1) c := (by rcases ownsRow_forms hown1 with ⟨_, h⟩ | ⟨g, c, h, _⟩; exact absurd h (by omega); exact ⟨_, _, h⟩); have R3 := Lib.hid r3; have R4 := Lib.hid r4; clear r3 r4 hown1 hgrow hwhere)
              all_goals
                go_wp2_with fail
                go_ret2
                exact ⟨by rw [HN.out, HRR.out]; rfl, by rw [HE.out]; exact R3.out, R4.out⟩
        · have b1 := neB x.k 1 k1
          by_cases k2 : x.k = 2
          · have b13 := neB x.k 3 (by omega)
            have b1k2 := eqB _ _ k2
            have K2 := Lib.hid k2
            clear k2
            have hcell : ∀ s : Wd (InDo w tb q x l (.slice A l.length c)), s.val.cell? ⟨tb, 0, none⟩ = some (.slice A l.length c) := fun s => s.ok.tc
            have hcel1 : ∀ s : Wd (InDo w tb q x l (.slice A l.length c)), s.val.cell? ⟨q, 1, none⟩ = some (.int .i64 x.p) := fun s => s.ok.c1
            have hcel3 : ∀ s : Wd (InDo w tb q x l (.slice A l.length c)), s.val.cell? ⟨q, 3, none⟩ = some (.int .u64 x.v) := fun s => s.ok.c3
            have Q1 := Lib.hid (fun s : Wd (InDo w tb q x l (.slice A l.length c)) => in_of_below s (fun y hb => s.ok.next hb) (bal_p REL.out OK.out x.p hp0 hp8 (.slice A l.length c) (tb + 1) s.val s.ok.own (by omega)))
            by_cases hb : L.bal x.p.toNat < x.v
            · have hd2 : decide (L.bal x.p.toNat < x.v) = true := by simpa using hb
              go_wp2_with fail
              refine wp_region_in (InDo w tb q x l (.slice A l.length c)) (by kernel_rfl) (by kernel_rfl) s.drew ?_
              repeat (go_big_quiet_step (with_reducible exact Q1.out _))
              clear Q1 hcell hcel1 hcel3 t0 e0 e1 e2 e3
              refine wpQuiet_nil ?_
              rintro y ⟨⟨_, s⟩, rfl⟩
              have hN : doN L x = 21 := by unfold doN LedS.payOut; rw [if_neg (by rw [K2.out]; decide), if_pos K2.out, if_neg (by omega), if_pos (by omega)]
              have hR : doR L x = 0 := by unfold doR; rw [if_neg (by rw [K2.out]; decide)]
              have HE : Hid (doE L x l = l) := if_neg (by rw [hN]; decide)
              have HN := Lib.hid hN
              have HRR := Lib.hid hR
              clear hN hR hb
              go_wp2_with fail
              go_ret2
              exact ⟨by rw [HN.out, HRR.out]; rfl, by rw [HE.out]; exact s.refl', s.moves HV.out⟩
            · have hd2 : decide (L.bal x.p.toNat < x.v) = false := by simpa using hb
              go_wp2_with fail
              refine wp_region_in (InDo w tb q x l (.slice A l.length c)) (by kernel_rfl) (by kernel_rfl) s.drew ?_
              repeat (go_big_quiet_step (with_reducible exact Q1.out _))
              clear Q1 hcell hcel1 hcel3 t0 e0 e1 e2 e3
              refine wpQuiet_nil ?_
              rintro y ⟨⟨_, s⟩, rfl⟩
              have hN : doN L x = 0 := by unfold doN LedS.payOut; rw [if_neg (by rw [K2.out]; decide), if_pos K2.out, if_neg (by omega), if_neg (by omega)]
              have hR : doR L x = 0 := by unfold doR; rw [if_neg (by rw [K2.out]; decide)]
              have hE : doE L x l = l ++ [x] := by unfold doE doX; rw [if_pos hN, if_neg (by rw [K2.out]; decide)]
              have e3 := s.c3
              have e0 := s.c0
              clear hb
              have HE := Lib.hid hE
              have HN := Lib.hid hN
              have HRR := Lib.hid hR
              have HI2 := HI.out
              clear hN hR hE
              have t0 := s.tc
              have e0 : y.cell? ⟨q, 0, none⟩ = some (.int .i64 x.k) := s.c0
              have e1 : y.cell? ⟨q, 1, none⟩ = some (.int .i64 x.p) := s.c1
              have e2 : y.cell? ⟨q, 2, none⟩ = some (.int .i64 x.b) := s.c2
              have e3 : y.cell? ⟨q, 3, none⟩ = some (.int .u64 x.v) := s.c3
              have ft := s.ft
              have a0 : (y.alloc (.cells #[.int .i64 x.k, .int .i64 x.p, .int .i64 x.b, .int .u64 x.v] 124)).cell? ⟨tb, 0, none⟩ = some (.slice A l.length c) := by rw [World.cell?_alloc_lt _ _ _ (inHeap t0)]; exact t0
              go_wp2_with fail
              go_region_law (refine step_append_at _ rfl _ _ 119 rfl (tb + 1) 124 i0 (.agg #[.int .i64 0, .int .i64 0, .int .i64 0, .int .u64 0]) 4 32 Tryz.underlying119 HI2 rfl (by decide) (.slice A l.length c) l.length (cells l) (by rfl) (s.own.alloc _) ⟨y.heap.size, 0, none⟩ 1 1 [.int .i64 x.k, .int .i64 x.p, .int .i64 x.b, .int .u64 x.v] (by rfl) rfl (four_at (by rfl) _ _ _ _ _) (by intro u hu; simp at hu; rcases hu with rfl | rfl | rfl | rfl <;> rfl) (by unfold maxLen; omega) (by omega) (by have := inHeap t0; simp; omega) ?_; intro V' w2 hown1 hgrow hwhere; obtain ⟨r1, r2, r0, r3, r4⟩ := s.app (t := 124) HV.out hown1 ⟨hgrow.os, hgrow.tape, hgrow.output, hgrow.size, hgrow.block⟩ hwhere; obtain ⟨A', c', rfl⟩ : ∃ A c, V' = .slice A (l.length + 1) c := (by rcases ownsRow_forms hown1 with ⟨_, h⟩ | ⟨g, c, h, _⟩; exact absurd h (by omega); exact ⟨_, _, h⟩); have R3 := Lib.hid r3; have R4 := Lib.hid r4; clear r3 r4 hown1 hgrow hwhere)
              all_goals
                go_wp2_with fail
                go_ret2
                exact ⟨by rw [HN.out, HRR.out]; rfl, by rw [HE.out]; exact R3.out, R4.out⟩
          · have b12 := neB x.k 2 k2
            by_cases k3 : x.k = 3
            · clear k1 k2
              have b1k3 := eqB _ _ k3
              have K3 := Lib.hid k3
              clear k3
              have hcell : ∀ s : Wd (InDo w tb q x l (.slice A l.length c)), s.val.cell? ⟨tb, 0, none⟩ = some (.slice A l.length c) := fun s => s.ok.tc
              have hcel1 : ∀ s : Wd (InDo w tb q x l (.slice A l.length c)), s.val.cell? ⟨q, 1, none⟩ = some (.int .i64 x.p) := fun s => s.ok.c1
              have hcel3 : ∀ s : Wd (InDo w tb q x l (.slice A l.length c)), s.val.cell? ⟨q, 3, none⟩ = some (.int .u64 x.v) := fun s => s.ok.c3
              have Q1 := Lib.hid (fun s : Wd (InDo w tb q x l (.slice A l.length c)) => in_of_below s (fun y hb => s.ok.next hb) (bal_p REL.out OK.out x.p hp0 hp8 (.slice A l.length c) (tb + 1) s.val s.ok.own (by omega)))
              by_cases hb : L.bal x.p.toNat < x.v
              · have hd2 : decide (L.bal x.p.toNat < x.v) = true := by simpa using hb
                go_wp2_with fail
                refine wp_region_in (InDo w tb q x l (.slice A l.length c)) (by kernel_rfl) (by kernel_rfl) s.drew ?_
                repeat (go_big_quiet_step (with_reducible exact Q1.out _))
                clear Q1 hcell hcel1 hcel3 t0 e0 e1 e2 e3
                refine wpQuiet_nil ?_
                rintro y ⟨⟨_, s⟩, rfl⟩
                have hN : doN L x = 21 := by unfold doN LedS.lockB; rw [if_neg (by rw [K3.out]; decide), if_neg (by rw [K3.out]; decide), if_pos K3.out, if_neg (by omega), if_pos (by omega)]
                have hR : doR L x = 0 := by unfold doR; rw [if_pos K3.out]; exact lockN_of (by unfold LedS.lockB; rw [if_neg (by omega), if_pos (by omega)]; show (21 : Int) ≠ 0; decide)
                have HE : Hid (doE L x l = l) := if_neg (by rw [hN]; decide)
                have HN := Lib.hid hN
                have HRR := Lib.hid hR
                clear hN hR hb
                go_wp2_with fail
                go_ret2
                exact ⟨by rw [HN.out, HRR.out]; rfl, by rw [HE.out]; exact s.refl', s.moves HV.out⟩
              · have hd2 : decide (L.bal x.p.toNat < x.v) = false := by simpa using hb
                go_wp2_with fail
                refine wp_region_in (InDo w tb q x l (.slice A l.length c)) (by kernel_rfl) (by kernel_rfl) s.drew ?_
                repeat (go_big_quiet_step (with_reducible exact Q1.out _))
                clear Q1 hcell hcel1 hcel3 t0 e0 e1 e2 e3
                refine wpQuiet_nil ?_
                rintro y ⟨⟨_, s⟩, rfl⟩
                have hnl : decide ((65536 : Int) ≤ ((L.bonds.length : Nat) : Int)) = false := by simp; omega
                have hN : doN L x = 0 := by unfold doN LedS.lockB; rw [if_neg (by rw [K3.out]; decide), if_neg (by rw [K3.out]; decide), if_pos K3.out, if_neg (by omega), if_neg (by omega), if_neg (by omega)]
                have hR : doR L x = (L.bonds.length : Nat) := by
                  unfold doR; rw [if_pos K3.out]; unfold LedS.lockN
                  rw [if_pos (by unfold doN at hN; rw [if_neg (by rw [K3.out]; decide), if_neg (by rw [K3.out]; decide), if_pos K3.out] at hN; exact hN)]
                have hE : doE L x l = l ++ [x] := by unfold doE doX; rw [if_pos hN, if_neg (by rw [K3.out]; decide)]
                have e3 := s.c3
                have e0 := s.c0
                clear hb
                have HE := Lib.hid hE
                have HN := Lib.hid hN
                have HRR := Lib.hid hR
                have HI2 := HI.out
                clear hN hR hE
                have t0 := s.tc
                have e0 : y.cell? ⟨q, 0, none⟩ = some (.int .i64 x.k) := s.c0
                have e1 : y.cell? ⟨q, 1, none⟩ = some (.int .i64 x.p) := s.c1
                have e2 : y.cell? ⟨q, 2, none⟩ = some (.int .i64 x.b) := s.c2
                have e3 : y.cell? ⟨q, 3, none⟩ = some (.int .u64 x.v) := s.c3
                have ft := s.ft
                have a0 : (y.alloc (.cells #[.int .i64 x.k, .int .i64 x.p, .int .i64 x.b, .int .u64 x.v] 124)).cell? ⟨tb, 0, none⟩ = some (.slice A l.length c) := by rw [World.cell?_alloc_lt _ _ _ (inHeap t0)]; exact t0
                go_wp2_with fail
                go_region_law (refine step_append_at _ rfl _ _ 119 rfl (tb + 1) 124 i0 (.agg #[.int .i64 0, .int .i64 0, .int .i64 0, .int .u64 0]) 4 32 Tryz.underlying119 HI2 rfl (by decide) (.slice A l.length c) l.length (cells l) (by rfl) (s.own.alloc _) ⟨y.heap.size, 0, none⟩ 1 1 [.int .i64 x.k, .int .i64 x.p, .int .i64 x.b, .int .u64 x.v] (by rfl) rfl (four_at (by rfl) _ _ _ _ _) (by intro u hu; simp at hu; rcases hu with rfl | rfl | rfl | rfl <;> rfl) (by unfold maxLen; omega) (by omega) (by have := inHeap t0; simp; omega) ?_; intro V' w2 hown1 hgrow hwhere; obtain ⟨r1, r2, r0, r3, r4⟩ := s.app (t := 124) HV.out hown1 ⟨hgrow.os, hgrow.tape, hgrow.output, hgrow.size, hgrow.block⟩ hwhere; obtain ⟨A', c', rfl⟩ : ∃ A c, V' = .slice A (l.length + 1) c := (by rcases ownsRow_forms hown1 with ⟨_, h⟩ | ⟨g, c, h, _⟩; exact absurd h (by omega); exact ⟨_, _, h⟩); have R3 := Lib.hid r3; have R4 := Lib.hid r4; clear r3 r4 hown1 hgrow hwhere)
                all_goals
                  go_wp2_with fail
                  go_ret2
                  exact ⟨by rw [HN.out, HRR.out]; rfl, by rw [HE.out]; exact R3.out, R4.out⟩
            · have b13 := neB x.k 3 k3
              have k4 : x.k = 4 := by omega
              have b14 := eqB _ _ k4
              have K4 := Lib.hid k4
              have K3 := Lib.hid k3
              have K2 := Lib.hid k2
              have K1 := Lib.hid k1
              clear k1 k2 k3 k4
              have hR : doR L x = 0 := by unfold doR; rw [if_neg K3.out]
              by_cases hb : x.b < 0 ∨ ((L.bonds.length : Nat) : Int) ≤ x.b
              · have hN : doN L x = 4 := by unfold doN LedS.give; rw [if_neg K1.out, if_neg K2.out, if_neg K3.out, if_neg (by omega), if_pos hb]
                have HE : Hid (doE L x l = l) := if_neg (by rw [hN]; decide)
                have HN := Lib.hid hN
                have HRR := Lib.hid hR
                clear hN hR
                rcases hb with hb | hb
                all_goals
                  go_wp2_with fail
                  go_ret2
                  exact ⟨by rw [HN.out, HRR.out]; rfl, by rw [HE.out]; exact s.refl', s.moves HV.out⟩
              · have hb0 : 0 ≤ x.b := by omega
                have hb1 : x.b < ((L.bonds.length : Nat) : Int) := by omega
                have HB := Lib.hid hb
                clear hb
                obtain ⟨⟨bv, bg⟩, hbx⟩ : ∃ z, L.bonds[x.b.toNat]? = some z := ⟨_, List.getElem?_eq_getElem (by omega)⟩
                have hvb2 := HVB.out
                have hgb2 := HGB.out
                rw [if_neg (by omega), hbx] at hvb2 hgb2
                simp at hvb2 hgb2
                subst hvb2 hgb2
                cases bg with
                | true =>
                  have hN : doN L x = 41 := by unfold doN LedS.give; rw [if_neg K1.out, if_neg K2.out, if_neg K3.out, if_neg (by omega), if_neg HB.out, hbx]; rfl
                  have HE : Hid (doE L x l = l) := if_neg (by rw [hN]; decide)
                  have HN := Lib.hid hN
                  have HRR := Lib.hid hR
                  clear hN hR hbx
                  go_wp2_with fail
                  go_ret2
                  exact ⟨by rw [HN.out, HRR.out]; rfl, by rw [HE.out]; exact s.refl', s.moves HV.out⟩
                | false =>
                  have hN : doN L x = 0 := by unfold doN LedS.give; rw [if_neg K1.out, if_neg K2.out, if_neg K3.out, if_neg (by omega), if_neg HB.out, hbx]; rfl
                  have hE : doE L x l = l ++ [{ x with v := bv }] := by unfold doE doX; rw [if_pos hN, if_pos K4.out, hbx]; rfl
                  have hf3 := s.fq 3
                  clear hbx
                  go_wp2_with fail
                  have s4 := s.setV bv
                  clear t0 e0 e1 e2 e3 hf3
                  generalize wr.setCell ⟨q, 3, none⟩ (.int .u64 bv) = y at *
                  have s := s4
                  clear s4
                  have HE := Lib.hid hE
                  have HN := Lib.hid hN
                  have HRR := Lib.hid hR
                  have HI2 := HI.out
                  clear hN hR hE
                  have t0 := s.tc
                  have e0 : y.cell? ⟨q, 0, none⟩ = some (.int .i64 x.k) := s.c0
                  have e1 : y.cell? ⟨q, 1, none⟩ = some (.int .i64 x.p) := s.c1
                  have e2 : y.cell? ⟨q, 2, none⟩ = some (.int .i64 x.b) := s.c2
                  have e3 : y.cell? ⟨q, 3, none⟩ = some (.int .u64 bv) := s.c3
                  have ft := s.ft
                  have a0 : (y.alloc (.cells #[.int .i64 x.k, .int .i64 x.p, .int .i64 x.b, .int .u64 bv] 124)).cell? ⟨tb, 0, none⟩ = some (.slice A l.length c) := by rw [World.cell?_alloc_lt _ _ _ (inHeap t0)]; exact t0
                  go_wp2_with fail
                  go_region_law (refine step_append_at _ rfl _ _ 119 rfl (tb + 1) 124 i0 (.agg #[.int .i64 0, .int .i64 0, .int .i64 0, .int .u64 0]) 4 32 Tryz.underlying119 HI2 rfl (by decide) (.slice A l.length c) l.length (cells l) (by rfl) (s.own.alloc _) ⟨y.heap.size, 0, none⟩ 1 1 [.int .i64 x.k, .int .i64 x.p, .int .i64 x.b, .int .u64 bv] (by rfl) rfl (four_at (by rfl) _ _ _ _ _) (by intro u hu; simp at hu; rcases hu with rfl | rfl | rfl | rfl <;> rfl) (by unfold maxLen; omega) (by omega) (by have := inHeap t0; simp; omega) ?_; intro V' w2 hown1 hgrow hwhere; obtain ⟨r1, r2, r0, r3, r4⟩ := s.app (t := 124) HV.out hown1 ⟨hgrow.os, hgrow.tape, hgrow.output, hgrow.size, hgrow.block⟩ hwhere; obtain ⟨A', c', rfl⟩ : ∃ A c, V' = .slice A (l.length + 1) c := (by rcases ownsRow_forms hown1 with ⟨_, h⟩ | ⟨g, c, h, _⟩; exact absurd h (by omega); exact ⟨_, _, h⟩); have R3 := Lib.hid r3; have R4 := Lib.hid r4; clear r3 r4 hown1 hgrow hwhere)
                  all_goals
                    go_wp2_with fail
                    go_ret2
                    exact ⟨by rw [HN.out, HRR.out]; rfl, by rw [HE.out]; exact R3.out, R4.out⟩
end Ev
end Go.Proofs.YtnaamljflcgepaaGreatDoor
namespace Go.Proofs.YtnaamljflcgepaaGreatDoor
open Go.RowKit
set_option linter.unusedVariables false
def ErrLaid (w : World) : Prop := w.cell? ⟨0, 0, none⟩ = some (.iface 109 (.agg #[.pointer (some ⟨4, 25, none⟩)]))
namespace Ev
theorem rel_do {L : LedS} {l : List Ev} (r : Rel L l) (ok : L.Ok) (x : Ev) (k1 : 1 ≤ x.k) (k4 : x.k ≤ 4) (v0 : 0 ≤ x.v) : Rel (doL L x) (doE L x l) ∧ (doL L x).Ok := by
  have ite_ok : ∀ {c : Prop} [Decidable c] {a b : Int × LedS} (ha : a.1 ≠ 0 → a.2 = L) (hb : b.1 ≠ 0 → b.2 = L), (if c then a else b).1 ≠ 0 → (if c then a else b).2 = L := by
    intro c _ a b ha hb
    split
    · exact ha
    · exact hb
  have e1 : (L.payIn x.p x.v).1 ≠ 0 → (L.payIn x.p x.v).2 = L := by unfold LedS.payIn; exact ite_ok (fun _ => rfl) (ite_ok (fun _ => rfl) (fun h => absurd rfl h))
  have e2 : (L.payOut x.p x.v).1 ≠ 0 → (L.payOut x.p x.v).2 = L := by unfold LedS.payOut; exact ite_ok (fun _ => rfl) (ite_ok (fun _ => rfl) (fun h => absurd rfl h))
  have e3 : (L.lockB x.p x.v).1 ≠ 0 → (L.lockB x.p x.v).2 = L := by unfold LedS.lockB; exact ite_ok (fun _ => rfl) (ite_ok (fun _ => rfl) (ite_ok (fun _ => rfl) (fun h => absurd rfl h)))
  have e4 : (L.give x.b x.p).1 ≠ 0 → (L.give x.b x.p).2 = L := by
    unfold LedS.give
    refine ite_ok (fun _ => rfl) (ite_ok (fun _ => rfl) ?_)
    cases L.bonds[x.b.toNat]? with
    | none => exact fun _ => rfl
    | some z => exact ite_ok (fun _ => rfl) (fun h => absurd rfl h)
  obtain ⟨k, p, b, v⟩ := x
  simp only at *
  have hc : k = 1 ∨ k = 2 ∨ k = 3 ∨ k = 4 := by omega
  rcases hc with rfl | rfl | rfl | rfl
  · simp only [doL, doE, doN, doX]
    refine ⟨?_, LedS.payIn_is ok v0⟩
    by_cases h : (L.payIn p v).1 = 0
    · simpa [h] using rel_payIn r v0 ok (L' := (L.payIn p v).2) (by rw [← h])
    · simpa [h, e1 h] using r
  · simp only [doL, doE, doN, doX]
    refine ⟨?_, LedS.payOut_is ok v0⟩
    by_cases h : (L.payOut p v).1 = 0
    · simpa [h] using rel_payOut r v0 ok (L' := (L.payOut p v).2) (by rw [← h])
    · simpa [h, e2 h] using r
  · simp only [doL, doE, doN, doX]
    refine ⟨?_, LedS.lock_is ok v0⟩
    by_cases h : (L.lockB p v).1 = 0
    · simpa [h] using rel_lock r v0 ok (L' := (L.lockB p v).2) (by rw [← h])
    · simpa [h, e3 h] using r
  · simp only [doL, doE, doN, doX]
    refine ⟨?_, LedS.give_is ok⟩
    by_cases h : (L.give b p).1 = 0
    · simpa [h] using rel_give r (w := 0) ok (L' := (L.give b p).2) (by rw [← h])
    · simpa [h, e4 h] using r
end Ev
/-- The two ledgers in one world. -/
structure Pl0 (W : World) (b tb : Nat) (L : LedS) (l : List Ev) (y : World) : Prop where
  led : IsLed y b L
  ref : Ev.RefL y tb l
  sep : ∀ k, OwnL y b k → ¬ OwnS y tb 0 k
  below : Below W.heap.size W y
  ol : ∀ k, OwnL y b k → W.heap.size ≤ k
  ot : ∀ k, OwnS y tb 0 k → W.heap.size ≤ k
/-- .. and a copy of the call in a block of its own. -/
structure Pl (W : World) (b tb q : Nat) (x : Ev) (L : LedS) (l : List Ev) (y : World) : Prop extends Pl0 W b tb L l y where
  c0 : y.cell? ⟨q, 0, none⟩ = some (.int .i64 x.k)
  c1 : y.cell? ⟨q, 1, none⟩ = some (.int .i64 x.p)
  c2 : y.cell? ⟨q, 2, none⟩ = some (.int .i64 x.b)
  c3 : y.cell? ⟨q, 3, none⟩ = some (.int .u64 x.v)
  nl : ¬ OwnL y b q
  nt : ¬ OwnS y tb 0 q
namespace Pl0
variable {W : World} {b tb : Nat} {L L' : LedS} {l l' : List Ev} {y z : World}
theorem lt_t (s : Pl0 W b tb L l y) : ∀ k, OwnS y tb 0 k → k < y.heap.size := by
  intro k hk
  obtain ⟨V, hV, hr⟩ := s.ref.row
  rcases hk with rfl | ⟨V', hV', hk⟩
  · exact inHeap hV
  · rw [hV] at hV'; injection hV' with e; subst e; exact (hr.lt k hk).2
theorem own_t (s : Pl0 W b tb L l y) (m : Moves b y z) : ∀ k, OwnS z tb 0 k → OwnS y tb 0 k := by
  obtain ⟨V, hV, hr⟩ := s.ref.row
  have hV' := m.kept.cell (fun h => s.sep tb h (.inl rfl)) hV
  rintro k (hk | ⟨V2, hV2, hk⟩)
  · exact .inl hk
  · rw [hV'] at hV2; injection hV2 with e; subst e; exact .inr ⟨_, hV, hk⟩
theorem own_l (s : Pl0 W b tb L l y) (m : MovesS tb 0 y z) : ∀ k, OwnL z b k → OwnL y b k := by
  obtain ⟨V, hV, hr⟩ := s.led.row
  have hV' := m.kept.cell (s.sep b (.inl rfl)) hV
  rintro k (hk | ⟨V2, hV2, hk⟩)
  · exact .inl hk
  · rw [hV'] at hV2; injection hV2 with e; subst e; exact .inr ⟨_, hV, hk⟩
theorem led_step (s : Pl0 W b tb L l y) (hL : IsLed z b L') (m : Moves b y z) : Pl0 W b tb L' l z := by
  obtain ⟨V, hV, hr⟩ := s.ref.row
  have htn : ¬ OwnL y b tb := fun h => s.sep tb h (.inl rfl)
  have hown := s.own_t m
  refine ⟨hL, ⟨⟨V, m.kept.cell htn hV, m.kept.row hr (fun k hk h => s.sep k h (.inr ⟨V, hV, hk⟩))⟩, by rw [m.kept.frozen htn (inHeap hV)]; exact s.ref.fz⟩, fun k hk ht => ?_, s.below.trans (m.kept.below s.below.size fun k _ hk => s.ol k hk), fun k hk => ?_, fun k hk => s.ot k (hown k hk)⟩
  · have ht' := hown k ht
    rcases m.own k hk with h | h
    · exact s.sep k h ht'
    · have := s.lt_t k ht'; omega
  · rcases m.own k hk with h | h
    · exact s.ol k h
    · exact Nat.le_trans s.below.size h
theorem ref_step (s : Pl0 W b tb L l y) (hR : Ev.RefL z tb l') (m : MovesS tb 0 y z) : Pl0 W b tb L l' z := by
  obtain ⟨V, hV, hr⟩ := s.led.row
  have hb0 : ¬ OwnS y tb 0 b := s.sep b (.inl rfl)
  have hown := s.own_l m
  have hbs := inHeap hV
  refine ⟨⟨⟨fun i hi => m.kept.cell hb0 (s.led.bal i hi), ⟨V, m.kept.cell hb0 hV, m.kept.row hr (fun k hk h => s.sep k (.inr ⟨V, hV, hk⟩) h)⟩, m.kept.cell hb0 s.led.pin, m.kept.cell hb0 s.led.pout, m.kept.cell hb0 s.led.locked, fun o => by rw [m.kept.frozen hb0 hbs]; exact s.led.fz o⟩, s.led.ok⟩, hR, fun k hk ht => ?_, s.below.trans (m.kept.below s.below.size fun k _ hk => s.ot k hk), fun k hk => s.ol k (hown k hk), fun k hk => ?_⟩
  · have hl := hown k hk
    rcases m.own k ht with h | h
    · exact s.sep k hl h
    · have := (Led.own_ge s.led k hl).2; omega
  · rcases m.own k hk with h | h
    · exact s.ot k h
    · exact Nat.le_trans s.below.size h
theorem next (s : Pl0 W b tb L l y) (hb : Below y.heap.size y z) : Pl0 W b tb L l z := s.led_step (Led.is_below s.led hb) (Led.moves_of_below s.led hb)
/-- A new copy of a call. -/
theorem copy (s : Pl0 W b tb L l y) (x' : Ev) (t : TypeId) : Pl W b tb y.heap.size x' L l (y.alloc (.cells #[.int .i64 x'.k, .int .i64 x'.p, .int .i64 x'.b, .int .u64 x'.v] t)) := by
  have hb : Below y.heap.size y (y.alloc (.cells #[.int .i64 x'.k, .int .i64 x'.p, .int .i64 x'.b, .int .u64 x'.v] t)) := (Below.refl _ _).alloc (Nat.le_refl _) _
  have h := s.next hb
  refine ⟨h, by simp, by simp, by simp, by simp, fun hh => ?_, fun hh => ?_⟩
  · obtain ⟨V, hV, hr⟩ := s.ref.row
    have hh2 : OwnL y b y.heap.size := s.own_l (MovesS.ofBelow hV hb) _ hh
    have := (Led.own_ge s.led _ hh2).2; omega
  · have hh2 := s.own_t (Led.moves_of_below s.led hb) _ hh
    have := s.lt_t _ hh2; omega
theorem laid (s : Pl0 W b tb L l y) (hg : ErrLaid W) : ErrLaid y := by
  unfold ErrLaid at *
  exact keep1 s.below hg
/-- At the law's start: a new ledger, a new list of events. -/
theorem start {w1 : World} (hL : IsLed w1 b LedS.init) (h1 : Below W.heap.size W w1) (hb : W.heap.size ≤ b) (ho : ∀ k, OwnL w1 b k → W.heap.size ≤ k) (t : TypeId) :
    Pl0 W b w1.heap.size LedS.init [] (w1.alloc (.cells #[.slice none 0 0] t)) := by
  have hbl : Below w1.heap.size w1 (w1.alloc (.cells #[.slice none 0 0] t)) := (Below.refl _ _).alloc (Nat.le_refl _) _
  have m := Led.moves_of_below hL hbl
  have hc : (w1.alloc (.cells #[.slice none 0 0] t)).cell? ⟨w1.heap.size, 0, none⟩ = some (.slice none 0 0) := by simp
  have hbs : b < w1.heap.size := by obtain ⟨V, hV, hr⟩ := hL.row; exact inHeap hV
  have hown : ∀ k, OwnL (w1.alloc (.cells #[.slice none 0 0] t)) b k → OwnL w1 b k := by
    obtain ⟨V, hV, hr⟩ := hL.row
    rintro k (hk | ⟨V2, hV2, hk⟩)
    · exact .inl hk
    · rw [keep1 hbl hV] at hV2; injection hV2 with e; subst e; exact .inr ⟨_, hV, hk⟩
  have hs : ∀ k, OwnS (w1.alloc (.cells #[.slice none 0 0] t)) w1.heap.size 0 k → k = w1.heap.size := by
    rintro k (hk | ⟨V2, hV2, hk⟩)
    · exact hk
    · rw [hc] at hV2; injection hV2 with e; subst e; simp [Value.ownBlock] at hk
  refine ⟨Led.is_below hL hbl, ⟨⟨_, hc, World.ownsRow_nil _ _ _ _⟩, by simp⟩, fun k hk ht => ?_, h1.trans (hbl.mono h1.size), fun k hk => ho k (hown k hk), fun k hk => ?_⟩
  · have := hs k ht
    have := (Led.own_ge hL k (hown k hk)).2; omega
  · rw [hs k hk]; exact h1.size
end Pl0
namespace Pl
variable {W : World} {b tb q : Nat} {x : Ev} {L L' : LedS} {l l' : List Ev} {y z : World}
theorem led_step (s : Pl W b tb q x L l y) (hL : IsLed z b L') (m : Moves b y z) : Pl W b tb q x L' l z :=
  ⟨s.toPl0.led_step hL m, m.kept.cell s.nl s.c0, m.kept.cell s.nl s.c1, m.kept.cell s.nl s.c2, m.kept.cell s.nl s.c3, fun h => by
    rcases m.own q h with h | h
    · exact s.nl h
    · have := inHeap s.c0; omega, fun h => s.nt (s.toPl0.own_t m q h)⟩
theorem ref_step (s : Pl W b tb q x L l y) (hR : Ev.RefL z tb l') (m : MovesS tb 0 y z) : Pl W b tb q x L l' z :=
  ⟨s.toPl0.ref_step hR m, m.kept.cell s.nt s.c0, m.kept.cell s.nt s.c1, m.kept.cell s.nt s.c2, m.kept.cell s.nt s.c3, fun h => s.nl (s.toPl0.own_l m q h), fun h => by
    rcases m.own q h with h | h
    · exact s.nt h
    · have := inHeap s.c0; omega⟩
theorem next (s : Pl W b tb q x L l y) (hb : Below y.heap.size y z) : Pl W b tb q x L l z := s.led_step (Led.is_below s.led hb) (Led.moves_of_below s.led hb)
end Pl
/-- .. with the value that the events' list has. -/
structure PlV (W : World) (b tb q : Nat) (x : Ev) (L : LedS) (l : List Ev) (V : Value) (y : World) : Prop extends Pl W b tb q x L l y where
  vt : y.cell? ⟨tb, 0, none⟩ = some V
  vr : y.ownsRow (tb + 1) 124 4 V l.length (Ev.cells l)
namespace PlV
variable {W : World} {b tb q : Nat} {x : Ev} {L : LedS} {l : List Ev} {V : Value} {y z : World}
theorem of (s : Pl W b tb q x L l y) : ∃ V, PlV W b tb q x L l V y := by
  obtain ⟨V, hV, hr⟩ := s.ref.row
  exact ⟨V, s, hV, hr⟩
theorem next (s : PlV W b tb q x L l V y) (hb : Below y.heap.size y z) : PlV W b tb q x L l V z :=
  ⟨s.toPl.next hb, keep1 hb s.vt, (Kept.ofBelow (S := fun _ => False) hb).row s.vr (fun _ _ hf => hf)⟩
theorem drew (s : PlV W b tb q x L l V y) : PlV W b tb q x L l V y.drew := s.next (Below.refl _ _).drew
end PlV
end Go.Proofs.YtnaamljflcgepaaGreatDoor
