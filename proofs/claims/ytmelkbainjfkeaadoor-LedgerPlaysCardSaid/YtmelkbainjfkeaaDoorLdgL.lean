/-
  Layer 18: the walk of LedgerPlays. Own work.
-/
import Derived.Test.YtmelkbainjfkeaaDoorLdgP
import Derived.Test.YtmelkbainjfkeaaDoorOpn
import Derived.Deep.DeepCutAuto
import Derived.Deep.CutBlock
namespace Go.Proofs.YtmelkbainjfkeaaDoor
open Go.RowKit Go.ChangeShapes
set_option linter.unusedVariables false
set_option maxHeartbeats 16000000 in
set_option maxRecDepth 100000 in
theorem plays_in (A : Option Addr) (len cap : Nat) (w : World) (hlm : (len : Int) ≤ 9223372036854775807)
    (cells : ∀ i, i < len → ∃ c off k p d v, A = some ⟨c, off, none⟩ ∧ w.cell? ⟨c, off + i * 4, none⟩ = some (.int .i64 k) ∧ w.cell? ⟨c, off + i * 4 + 1, none⟩ = some (.int .i64 p) ∧ w.cell? ⟨c, off + i * 4 + 2, none⟩ = some (.int .i64 d) ∧ w.cell? ⟨c, off + i * 4 + 3, none⟩ = some (.int .u64 v) ∧ 0 ≤ v ∧ v ≤ 18446744073709551615)
    (hg : ErrLaid w) :
    Calls Tryd.prog 3 #[.slice A len cap] w fun e w' => e = .returned (.bool true) ∧ Below w.heap.size w w' := by
  have HC := Lib.hid cells
  have HG := Lib.hid hg
  clear cells hg
  go_enter Tryd.func3, Tryd.ntmps3
  go_wp2_with fail
  refine (Led.new_at _).mono ?_
  rintro e x1 ⟨b, rfl, hL, hb, hbs, ho⟩
  have s := Pl0.start hL hb hbs ho 28
  clear hL hb hbs ho
  go_wp2_with fail
  refine (Led.fixed_true _).mono ?_
  rintro e x2 ⟨rfl, hbf⟩
  have s := s.next hbf
  have S0 := Lib.hid s
  clear s hbf
  go_wp2_with fail
  generalize x1.heap.size = tb at *
  go_loopw [30] (fun i wr => ∃ (n : Nat) (L : LedS) (l : List Ev), n ≤ len ∧ i = .int .i64 n ∧ Ev.Rel L l ∧ (l.length : Int) ≤ 150 ∧ l.length ≤ n ∧ Pl0 w b tb L l wr) (fun i _ => len - (intOf i).toNat)
  case atStart => exact ⟨0, _, _, Nat.zero_le _, rfl, Ev.rel_init, by decide, Nat.zero_le _, S0.out⟩
  case round =>
    obtain ⟨n, L, l, hn, rfl, hrel2, hl150, hln, s⟩ := hrel
    by_cases hlt : (n : Int) < (len : Int)
    · obtain ⟨c, off, k, p, d, v, rfl, d0, d1, d2, d3, v0, v1⟩ := HC.out n (by omega)
      have c0 := (s.below.cell (p := ⟨c, off + n * 4, none⟩) (inHeap d0)).trans d0
      have c1 := (s.below.cell (p := ⟨c, off + n * 4 + 1, none⟩) (inHeap d1)).trans d1
      have c2 := (s.below.cell (p := ⟨c, off + n * 4 + 2, none⟩) (inHeap d2)).trans d2
      have c3 := (s.below.cell (p := ⟨c, off + n * 4 + 3, none⟩) (inHeap d3)).trans d3
      clear d0 d1 d2 d3
      have sc := s.copy ⟨k, p, d, v⟩ 32
      have SC := Lib.hid sc
      have REL := Lib.hid hrel2
      have OK := Lib.hid s.led.ok
      clear sc s hrel2
      by_cases h150 : (150 : Int) ≤ (n : Int)
      · go_wp2_with fail
        go_ret
        exact ⟨rfl, SC.out.below⟩
      · by_cases hk14 : 1 ≤ k ∧ k ≤ 4
        · go_upto_block 2 with (fail)
          generalize hq : wr.heap.size = q at *
          clear hq
          generalize wr.alloc (.cells #[.int .i64 k, .int .i64 p, .int .i64 d, .int .u64 v] 32) = y0 at *
          clear c0 c1 c2 c3
          have rd := Ev.rel_do REL.out OK.out ⟨k, p, d, v⟩ hk14.1 hk14.2 v0
          have hlen := Ev.doE_len L ⟨k, p, d, v⟩ l
          have RD := Lib.hid rd
          have HLEN := Lib.hid hlen
          have HK := Lib.hid hk14
          clear rd hlen
          go_cut [7, 8] (fun e m y => e = errV (Ev.doN L ⟨k, p, d, v⟩) ∧ m = .int .i64 (Ev.doR L ⟨k, p, d, v⟩) ∧ Pl w b tb q ⟨k, p, d, v⟩ (Ev.doL L ⟨k, p, d, v⟩) l y)
          case first =>
            have s := SC.out
            have e1 := s.c1
            have e2 := s.c2
            have e3 := s.c3
            by_cases k1 : k = 1
            · have b1 := Ev.eqB _ _ k1
              have K1 := Lib.hid k1
              clear k1 hk14
              go_wp2_with fail
              refine (Led.payIn_any b p v _ L s.led v0).mono ?_
              rintro e y1 ⟨rfl, hL, m1⟩
              have s1 := s.led_step hL m1
              clear hL m1
              go_wp2_with fail
              go_meet
              case rel => exact ⟨congrArg errV (if_pos K1.out : Ev.doN L ⟨k, p, d, v⟩ = _).symm, congrArg (Value.int .i64) (if_neg (by show ¬ k = 3; rw [K1.out]; decide) : Ev.doR L ⟨k, p, d, v⟩ = 0).symm, by rw [show Ev.doL L ⟨k, p, d, v⟩ = (L.payIn p v).2 from if_pos K1.out]; exact s1⟩
            · have b1 := Ev.neB _ _ k1
              by_cases k2 : k = 2
              · have b2 := Ev.eqB _ _ k2
                have K1 := Lib.hid k1
                have K2 := Lib.hid k2
                clear k1 k2 hk14
                go_wp2_with fail
                refine (Led.payOut_any b p v _ L s.led v0).mono ?_
                rintro e y1 ⟨rfl, hL, m1⟩
                have s1 := s.led_step hL m1
                clear hL m1
                go_wp2_with fail
                go_meet
                case rel => exact ⟨congrArg errV ((if_neg K1.out).trans (if_pos K2.out) : Ev.doN L ⟨k, p, d, v⟩ = _).symm, congrArg (Value.int .i64) (if_neg (by show ¬ k = 3; rw [K2.out]; decide) : Ev.doR L ⟨k, p, d, v⟩ = 0).symm, by rw [show Ev.doL L ⟨k, p, d, v⟩ = (L.payOut p v).2 from (if_neg K1.out).trans (if_pos K2.out)]; exact s1⟩
              · have b2 := Ev.neB _ _ k2
                by_cases k3 : k = 3
                · have b3 := Ev.eqB _ _ k3
                  have K1 := Lib.hid k1
                  have K2 := Lib.hid k2
                  have K3 := Lib.hid k3
                  clear k1 k2 k3 hk14
                  go_wp2_with fail
                  refine (Led.lock_any b p v _ L s.led v0).mono ?_
                  rintro e y1 ⟨rfl, hL, m1⟩
                  have s1 := s.led_step hL m1
                  clear hL m1
                  go_wp2_with fail
                  go_meet
                  case rel => exact ⟨congrArg errV ((if_neg K1.out).trans ((if_neg K2.out).trans (if_pos K3.out)) : Ev.doN L ⟨k, p, d, v⟩ = _).symm, congrArg (Value.int .i64) (if_pos K3.out : Ev.doR L ⟨k, p, d, v⟩ = _).symm, by rw [show Ev.doL L ⟨k, p, d, v⟩ = (L.lockB p v).2 from (if_neg K1.out).trans ((if_neg K2.out).trans (if_pos K3.out))]; exact s1⟩
                · have b3 := Ev.neB _ _ k3
                  have b4 := Ev.eqB k 4 (by omega)
                  have K1 := Lib.hid k1
                  have K2 := Lib.hid k2
                  have K3 := Lib.hid k3
                  clear k1 k2 k3 hk14
                  go_wp2_with fail
                  refine (Led.give_any b d p _ L s.led).mono ?_
                  rintro e y1 ⟨rfl, hL, m1⟩
                  have s1 := s.led_step hL m1
                  clear hL m1
                  go_wp2_with fail
                  go_meet
                  case rel => exact ⟨congrArg errV ((if_neg K1.out).trans ((if_neg K2.out).trans (if_neg K3.out)) : Ev.doN L ⟨k, p, d, v⟩ = _).symm, congrArg (Value.int .i64) (if_neg K3.out : Ev.doR L ⟨k, p, d, v⟩ = _).symm, by rw [show Ev.doL L ⟨k, p, d, v⟩ = (L.give d p).2 from (if_neg K1.out).trans ((if_neg K2.out).trans (if_neg K3.out))]; exact s1⟩
          case rest =>
            obtain ⟨rfl, rfl, s⟩ := hcut
            have e0 := s.c0
            have e1 := s.c1
            have e2 := s.c2
            have e3 := s.c3
            have DO := Lib.hid (fun z (h : Ev.RefL z tb l) => Ev.do_is tb ⟨k, p, d, v⟩ L l z h REL.out OK.out (by omega) HK.out.1 HK.out.2 v0 v1)
            clear SC hk14
            generalize Ev.doN L ⟨k, p, d, v⟩ = N at *
            generalize Ev.doR L ⟨k, p, d, v⟩ = R at *
            generalize Ev.doL L ⟨k, p, d, v⟩ = L2 at *
            generalize Ev.doE L ⟨k, p, d, v⟩ l = l2 at *
            go_wp2_with fail
            refine (DO.out _ s.ref).mono ?_
            rintro e y1 ⟨rfl, hR, m1⟩
            have s := s.ref_step hR m1
            clear hR m1 DO e0 e1 e2 e3
            go_wp2_with fail
            refine (number_err N _ (s.laid HG.out)).mono ?_
            rintro e y2 ⟨rfl, hb⟩
            have s := s.next hb
            clear hb
            have REL2 := Lib.hid RD.out.1
            have OK2 := Lib.hid RD.out.2
            clear RD
            go_wp2_with fail
            refine (Led.locked_any b _ L2 s.led).mono ?_
            rintro e y3 ⟨rfl, hL, m1⟩
            have s := s.led_step hL m1
            have S3 := Lib.hid s
            clear hL m1 s
            go_wp2_with fail
            generalize errV N = eN at *
            go_loopw [134, 13] (fun i sm z => ∃ j : Nat, j ≤ 8 ∧ i = .int .i64 j ∧ sm = .int .u64 (L2.locked + balS L2 j) ∧ Pl w b tb q ⟨k, p, d, v⟩ L2 l2 z) (fun i _ _ => 8 - (intOf i).toNat)
            case atStart => exact ⟨0, Nat.zero_le _, rfl, by simp [balS], S3.out⟩
            case round =>
              obtain ⟨j, hj, rfl, rfl, s⟩ := hrel
              by_cases hj8 : (j : Int) < 8
              · have hjn : j < 8 := by omega
                have hb0 := OK2.out.bal0 j hjn
                have hs0 := balS_bd OK2.out j (by omega)
                have hs1 := balS_le OK2.out (j + 1) (by omega)
                have hl0 := (LedS.bal_le OK2.out hjn).2
                simp only [balS] at hs1
                have HJ := Lib.hid hjn
                clear hjn
                go_wp2_with fail
                refine (Led.balance_to b j (L2.bal j) _ L2 s.led (by omega) (by omega) (by rw [Int.toNat_natCast])).mono ?_
                rintro e z1 ⟨rfl, hL, m1⟩
                have s := s.led_step hL m1
                clear hL m1
                obtain ⟨V, sv⟩ := PlV.of s
                have t0 := sv.vt
                go_wp2_with fail
                refine (bal_n REL2.out OK2.out j HJ.out V (tb + 1) _ sv.vr (by have := HLEN.out; omega)).mono ?_
                rintro e z2 ⟨rfl, hb⟩
                have s := s.next hb
                clear hb t0 sv
                go_wp2_with fail
                go_roundw
                case rel => exact ⟨j + 1, by omega, by go_num, by simp only [balS]; congr 1; omega, s⟩
                case measure => simp [intOf]; omega
              · have hj9 : j = 8 := by omega
                subst hj9
                go_wp2_with fail
                refine (Led.flows_any b _ L2 s.led).mono ?_
                rintro e z1 ⟨rfl, hL, m1⟩
                have s := s.led_step hL m1
                clear hL m1
                obtain ⟨V, sv⟩ := PlV.of s
                have HV := Lib.hid sv
                have NE : Nonempty (Wd (PlV w b tb q ⟨k, p, d, v⟩ L2 l2 V)) := ⟨⟨_, sv⟩⟩
                have hcell : ∀ s : Wd (PlV w b tb q ⟨k, p, d, v⟩ L2 l2 V), s.val.cell? ⟨tb, 0, none⟩ = some V := fun s => s.ok.vt
                have Q1 := Lib.hid (fun s : Wd (PlV w b tb q ⟨k, p, d, v⟩ L2 l2 V) => in_of_below s (fun y hb => s.ok.next hb) (Ev.sum_is 1 (-1) l2 V (tb + 1) s.val s.ok.vr (by have := HLEN.out; omega) REL2.out.nn))
                have Q2 := Lib.hid (fun s : Wd (PlV w b tb q ⟨k, p, d, v⟩ L2 l2 V) => in_of_below s (fun y hb => s.ok.next hb) (Ev.sum_is 2 (-1) l2 V (tb + 1) s.val s.ok.vr (by have := HLEN.out; omega) REL2.out.nn))
                have Q3 := Lib.hid (fun s : Wd (PlV w b tb q ⟨k, p, d, v⟩ L2 l2 V) => in_of_below s (fun y hb => s.ok.next hb) (Ev.sum_is 3 (-1) l2 V (tb + 1) s.val s.ok.vr (by have := HLEN.out; omega) REL2.out.nn))
                have Q4 := Lib.hid (fun s : Wd (PlV w b tb q ⟨k, p, d, v⟩ L2 l2 V) => in_of_below s (fun y hb => s.ok.next hb) (Ev.sum_is 4 (-1) l2 V (tb + 1) s.val s.ok.vr (by have := HLEN.out; omega) REL2.out.nn))
                have Q5 := Lib.hid (fun s : Wd (PlV w b tb q ⟨k, p, d, v⟩ L2 l2 V) => in_of_below s (fun y hb => s.ok.next hb) ((Led.locked_ok b L2.locked s.val s.ok.led.locked).mono fun e w' ⟨he, m, hm⟩ => ⟨he, by rw [hm]; exact below_drewN (Below.refl _ _) m⟩))
                rw [← REL2.out.pin] at Q1
                rw [← REL2.out.pout] at Q2
                have hm := OK2.out.most
                have hl0 := (LedS.bal_le OK2.out (i := 0) (by omega)).2
                have hw1 : IntKind.u64.wrap (L2.pout + (L2.locked + balS L2 8)) = L2.pin := by have h9 := balS_all OK2.out; rw [balS_all OK2.out]; have := OK2.out.pout0; have := balS_bd OK2.out 8 (by omega); simp [IntKind.wrap, IntKind.bits, IntKind.signed]; omega
                have hw2 : IntKind.u64.wrap (Ev.sumF 3 (-1) l2 - Ev.sumF 4 (-1) l2) = L2.locked := by have h9 := balS_all OK2.out; rw [← REL2.out.locked]; have := OK2.out.pout0; have := balS_bd OK2.out 8 (by omega); simp [IntKind.wrap, IntKind.bits, IntKind.signed]; omega
                clear hm hl0 s sv
                generalize Ev.sumF 3 (-1) l2 = s3 at *
                generalize Ev.sumF 4 (-1) l2 = s4 at *
                generalize balS L2 8 = sB at *
                go_wp2_with fail
                refine wp_region_in (PlV w b tb q ⟨k, p, d, v⟩ L2 l2 V) (by kernel_rfl) (by kernel_rfl) HV.out.drew ?_
                repeat (go_big_quiet_step (first
                  | with_reducible exact Q1.out _
                  | with_reducible exact Q2.out _
                  | with_reducible exact Q3.out _
                  | with_reducible exact Q4.out _
                  | with_reducible exact Q5.out _))
                clear Q1 Q2 Q3 Q4 Q5 hcell hw1 hw2
                refine wpQuiet_nil ?_
                rintro z ⟨⟨_, sv⟩, rfl⟩
                go_wp2_with fail
                go_roundw
                case rel => exact ⟨n + 1, L2, l2, by omega, by go_num, REL2.out, by have := HLEN.out; omega, by have := HLEN.out; omega, sv.toPl0⟩
                case measure => simp [intOf]; omega
        · have b1 := Ev.neB k 1 (by omega)
          have b2 := Ev.neB k 2 (by omega)
          have b3 := Ev.neB k 3 (by omega)
          have b4 := Ev.neB k 4 (by omega)
          go_upto_block 2 with (fail)
          generalize hq : wr.heap.size = q at *
          clear hq
          generalize wr.alloc (.cells #[.int .i64 k, .int .i64 p, .int .i64 d, .int .u64 v] 32) = y0 at *
          clear c0 c1 c2 c3 hk14
          have s := SC.out
          have e1 := s.c1
          by_cases hp : p < 0 ∨ 8 ≤ p
          · have HP := Lib.hid hp
            clear hp
            go_wp2_with fail
            refine (Led.balance_no b p _ L s.led HP.out).mono ?_
            rintro e y1 ⟨rfl, hL, m1⟩
            have s := s.led_step hL m1
            clear hL m1 e1
            have e1 := s.c1
            rcases HP.out with hp | hp
            all_goals
              go_wp2_with fail
              refine (Err.is_num _ _ _).mono ?_
              rintro e w' ⟨rfl, rfl⟩
              go_wp2_with fail
              go_roundw
              case rel => exact ⟨n + 1, L, l, by omega, by go_num, REL.out, hl150, by omega, s.toPl0⟩
              case measure => simp [intOf]; omega
          · have hp0 : 0 ≤ p := by omega
            have hp8 : p < 8 := by omega
            clear hp
            go_wp2_with fail
            refine (Led.balance_to b p (L.bal p.toNat) _ L s.led hp0 hp8 rfl).mono ?_
            rintro e y1 ⟨rfl, hL, m1⟩
            have s := s.led_step hL m1
            clear hL m1 e1
            have e1 := s.c1
            obtain ⟨V, sv⟩ := PlV.of s
            have HV := Lib.hid sv
            have NE : Nonempty (Wd (PlV w b tb q ⟨k, p, d, v⟩ L l V)) := ⟨⟨_, sv⟩⟩
            have hcell : ∀ s : Wd (PlV w b tb q ⟨k, p, d, v⟩ L l V), s.val.cell? ⟨tb, 0, none⟩ = some V := fun s => s.ok.vt
            have hcel1 : ∀ s : Wd (PlV w b tb q ⟨k, p, d, v⟩ L l V), s.val.cell? ⟨q, 1, none⟩ = some (.int .i64 p) := fun s => s.ok.c1
            have Q1 := Lib.hid (fun s : Wd (PlV w b tb q ⟨k, p, d, v⟩ L l V) => in_of_below s (fun y hb => s.ok.next hb) (Ev.bal_p REL.out OK.out p hp0 hp8 V (tb + 1) s.val s.ok.vr (by omega)))
            clear s sv
            go_wp2_with fail
            refine wp_region_in (PlV w b tb q ⟨k, p, d, v⟩ L l V) (by kernel_rfl) (by kernel_rfl) HV.out.drew ?_
            repeat (go_big_quiet_step (with_reducible exact Q1.out _))
            clear Q1 hcell hcel1 e1
            refine wpQuiet_nil ?_
            rintro z ⟨⟨_, sv⟩, rfl⟩
            go_wp2_with fail
            go_roundw
            case rel => exact ⟨n + 1, L, l, by omega, by go_num, REL.out, hl150, by omega, sv.toPl0⟩
            case measure => simp [intOf]; omega
    · go_wp2_with fail
      go_ret
      exact ⟨rfl, s.below⟩
theorem ledgerPlays_walk (a0 : Option Addr) (len0 cap0 : Nat) (w : World) (w0 : IsRecs [.i64, .i64, .i64, .u64] w a0 len0 cap0) (g : w.cell? ⟨0, 0, none⟩ = some (.iface 66 (.agg #[.pointer (some ⟨1, 34, none⟩)]))) :
    Calls Tryd.prog 3 #[.slice a0 len0 cap0] w fun e w' => e = .returned (.bool true) ∧ Below w.heap.size w w' := by
  rcases w0 with ⟨rfl, rfl, rfl⟩ | ⟨hl, hm, hi⟩
  · exact plays_in none 0 0 w (by decide) (fun i hi => by omega) g
  · unfold maxLen at hm
    refine plays_in a0 len0 cap0 w (by omega) (fun i hil => ?_) g
    obtain ⟨c, off, rfl, hc⟩ := hi i hil
    obtain ⟨k, c0, _⟩ := hc 0 .i64 rfl
    obtain ⟨p, c1, _⟩ := hc 1 .i64 rfl
    obtain ⟨d, c2, _⟩ := hc 2 .i64 rfl
    obtain ⟨v, c3, hv⟩ := hc 3 .u64 rfl
    have hb := bounds_u64 hv
    exact ⟨c, off, k, p, d, v, rfl, c0, c1, c2, c3, hb.1, hb.2⟩
end Go.Proofs.YtmelkbainjfkeaaDoor
