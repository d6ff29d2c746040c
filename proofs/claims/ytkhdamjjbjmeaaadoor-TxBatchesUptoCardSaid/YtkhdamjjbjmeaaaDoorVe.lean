/-
  mootref04: Decode. Own work.
-/
import Derived.Test.YtkhdamjjbjmeaaaDoorV7
import Derived.Test.YtkhdamjjbjmeaaaDoorJ10
import Derived.BigRegion
import Derived.StillTailTactics
namespace Go.Proofs.YtkhdamjjbjmeaaaDoor
open Go.ChangeShapes Go.WideShapes Go.Deep Go.RowKit
set_option linter.unusedVariables false
set_option linter.unusedSimpArgs false
namespace Rl
theorem hd_ne {b : List Bt} {i e : Nat} {k : Int} (h : Rl.hd b i e = .bad k) : k ≠ 0 := by
  unfold Rl.hd hdL at h
  repeat' split at h
  all_goals first
    | (injection h with h1; omega)
    | cases h
/-- What is wrong has a number. -/
theorem bad_ne (b : List Bt) : ∀ f : Nat,
    (∀ i e d p k, i < e → e ≤ b.length → 2 * (e - i) + 1 ≤ f → one b f i e d = .bad p k → k ≠ 0) ∧
    (∀ i e d p k, i ≤ e → e ≤ b.length → 2 * (e - i) + 2 ≤ f → items b f i e d = .bad p k → k ≠ 0) := by
  intro f
  induction f with
  | zero => exact ⟨fun i e d p k _ _ h => by omega, fun i e d p k _ _ h => by omega⟩
  | succ f ih =>
    constructor
    · intro i e d p k hi he hf h
      by_cases hd16 : 16 ≤ d
      · rw [one_deep hd16] at h; injection h with _ h; omega
      · cases hh : Rl.hd b i e with
        | bad w => rw [one_bad (by omega) hh] at h; injection h with _ h; subst h; exact hd_ne hh
        | ok l s n =>
          obtain ⟨h1, h2, _⟩ := hd_ok hi he hh
          cases l with
          | false => rw [one_text (by omega) hh] at h; cases h
          | true =>
            rw [one_list (by omega) hh] at h
            have h3 := hd_skip hh
            cases hk : items b f (i + s) (i + s + n) (d + 1) with
            | ok r => rw [hk] at h; cases h
            | bad p' w' =>
              rw [hk] at h
              injection h with _ h
              subst h
              exact ih.2 _ _ _ _ _ (by omega) (by omega) (by omega) hk
    · intro i e d p k hi he hf h
      by_cases hie : e ≤ i
      · rw [items_end hie] at h; cases h
      · cases ho : one b f i e d with
        | bad p' w' => rw [items_bad (by omega) ho] at h; injection h with _ h; subst h; exact ih.1 _ _ _ _ _ (by omega) he (by omega) ho
        | ok l x kk j =>
          rw [items_ok (by omega) ho] at h
          have hn := one_next (by omega) he ho
          cases hk : items b f j e d with
          | ok r => rw [hk] at h; cases h
          | bad p' w' =>
            rw [hk] at h
            injection h with _ h
            subst h
            exact ih.2 _ _ _ _ _ (by omega) he (by omega) hk
theorem dec_ne {b : List Bt} {p : Nat} {k : Int} (h : dec b = .bad p k) : k ≠ 0 := by
  unfold dec at h
  split at h
  · injection h with _ h; omega
  · split at h
    · injection h with _ h; omega
    · rename_i h1 h2
      cases ho : one b (4 * b.length + 4) 0 b.length 0 with
      | bad p' w' => rw [ho] at h; injection h with _ h; subst h; exact (bad_ne b _).1 _ _ _ _ _ (by omega) (Nat.le_refl _) (by omega) ho
      | ok l x kk j =>
        rw [ho] at h
        have h : (if j < b.length then R1.bad j 11 else .ok l x kk j) = .bad p k := h
        split at h
        · injection h with _ h; omega
        · cases h
/-- The reference's Decode. -/
def rtxOut : TxR → Ending → Prop
  | .flt p k, e => e = .returned (.tuple #[txv zf, .int .i64 p, .int .i64 k])
  | .num k, e => e = .returned (.tuple #[txv zf, .int .i64 (-1), .int .i64 k])
  | .ok f, e => e = .returned (.tuple #[txv f, .int .i64 (-1), .int .i64 0])
set_option maxHeartbeats 2000000 in
set_option maxRecDepth 100000 in
theorem txRDecode_none (w : World) (a : Option Addr) (n c : Nat) (bs : List Bt) (hB : IsB w a n c bs) (hno : ∀ l x k j, dec bs = .ok l x k j → ¬ (l = true ∧ k.len = 6)) :
    Calls Tryd.prog 15 #[.slice a n c] w fun r w' => rtxOut (txd bs) r ∧ Below w.heap.size w w' := by
  have HB1 := Lib.hid (ba w (.cells #[.int .u64 0, .int .u64 0, .int .u64 0, .int .u64 0, .int .u64 0, .int .u64 0] 36))
  have HR1 : Hid (Box6 (w.alloc (.cells #[.int .u64 0, .int .u64 0, .int .u64 0, .int .u64 0, .int .u64 0, .int .u64 0] 36)) w.heap.size gz) := Lib.hid (Box6.new w gz _)
  have HD := Lib.hid (rdecode_walk _ a n c bs (hB.keep (keep_below HB1.out)))
  have HT : Hid (∀ R, dec bs = R → txd bs = match R with | .bad p k => .flt p k | .ok l _ k _ => if l = true ∧ k.len = 6 then txd' k else .num 3) := Lib.hid (fun R h => by unfold txd; rw [h]; cases R <;> rfl)
  clear hB
  cases hD : dec bs with
  | bad p k =>
    rw [hD] at HD
    have HX := Lib.hid (HT.out _ hD)
    have hk : (k != 0) = true := by simpa using dec_ne hD
    clear hD HT hno
    go_enter Tryd.func15, Tryd.ntmps15
    go_upto_region 1 with (fail)
    generalize w.alloc (.cells #[.int .u64 0, .int .u64 0, .int .u64 0, .int .u64 0, .int .u64 0, .int .u64 0] 36) = y0 at *
    go_upto_region 3 with (go_at_call 39; (with_reducible refine HD.out.mono ?_); rintro e y1 ⟨he, hb⟩; obtain rfl : e = _ := he
                           have HR := Lib.hid ((HR1.out.keep hb).keep (ba y1 (.cells #[.bool false, .slice none 0 0, .slice none 0 0] 79)))
                           have HBL := Lib.hid (bl (bl HB1.out hb) (ba y1 (.cells #[.bool false, .slice none 0 0, .slice none 0 0] 79)))
                           unfold zIt
                           clear hb HD)
    generalize y1.alloc (.cells #[.bool false, .slice none 0 0, .slice none 0 0] 79) = y2 at *
    have g0 := HR.out.k 0 (by decide)
    have g1 := HR.out.k 1 (by decide)
    have g2 := HR.out.k 2 (by decide)
    have g3 := HR.out.k 3 (by decide)
    have g4 := HR.out.k 4 (by decide)
    have g5 := HR.out.k 5 (by decide)
    have e0 := HR.out.f 0 (by decide)
    have e1 := HR.out.f 1 (by decide)
    have e2 := HR.out.f 2 (by decide)
    have e3 := HR.out.f 3 (by decide)
    have e4 := HR.out.f 4 (by decide)
    have e5 := HR.out.f 5 (by decide)
    go_wp2_with (fail)
    obtain ⟨z0, z1, z2, z3, z4, z5⟩ := HR.out.put (.int .u64 0) (.int .u64 0) (.int .u64 0) (.int .u64 0) (.int .u64 0) (.int .u64 0)
    refine bodyPost_ret (v := .tuple #[txv zf, .int .i64 p, .int .i64 k]) (by simp [results, Tryd.results15, go_sem, z0, z1, z2, z3, z4, z5]) rfl ⟨?_, put6_below HBL.out (Nat.le_refl _)⟩
    rw [HX.out]
    rfl
  | ok l x k j =>
    rw [hD] at HD
    have HX := Lib.hid (HT.out _ hD)
    have hn := hno l x k j hD
    have HNN := Lib.hid (show txd bs = .num 3 by rw [HX.out]; exact if_neg hn)
    have HL : (l = true ∧ ((k.len : Int) != 6) = true) ∨ l = false := by
      cases l
      · exact .inr rfl
      · exact .inl ⟨rfl, by simp; intro h; exact hn ⟨rfl, by omega⟩⟩
    clear hD HT hno hn HX
    rcases HL with ⟨rfl, h6⟩ | rfl
    · skip
      go_enter Tryd.func15, Tryd.ntmps15
      go_upto_region 1 with (fail)
      generalize w.alloc (.cells #[.int .u64 0, .int .u64 0, .int .u64 0, .int .u64 0, .int .u64 0, .int .u64 0] 36) = y0 at *
      go_upto_region 4 with (go_at_call 39; (with_reducible refine HD.out.mono ?_); rintro e y1 ⟨⟨a3, n3, c3, a4, n4, c4, rfl, hB3, hK3⟩, hb⟩; obtain rfl : n4 = k.len := hK3.1
                             have HR := Lib.hid ((HR1.out.keep hb).keep (ba y1 (.cells #[.bool true, .slice a3 n3 c3, .slice a4 k.len c4] 79)))
                             have HBL := Lib.hid (bl (bl HB1.out hb) (ba y1 (.cells #[.bool true, .slice a3 n3 c3, .slice a4 k.len c4] 79)))
                             have HI := Lib.hid (Box3.new y1 (.bool true) (.slice a3 n3 c3) (.slice a4 k.len c4) 79)
                             clear hb HD hB3 hK3)
      generalize y1.alloc (.cells #[.bool true, .slice a3 n3 c3, .slice a4 k.len c4] 79) = y2 at *
      obtain ⟨k0, k1, k2, _, _, _⟩ := HI.out
      have g0 := HR.out.k 0 (by decide)
      have g1 := HR.out.k 1 (by decide)
      have g2 := HR.out.k 2 (by decide)
      have g3 := HR.out.k 3 (by decide)
      have g4 := HR.out.k 4 (by decide)
      have g5 := HR.out.k 5 (by decide)
      have e0 := HR.out.f 0 (by decide)
      have e1 := HR.out.f 1 (by decide)
      have e2 := HR.out.f 2 (by decide)
      have e3 := HR.out.f 3 (by decide)
      have e4 := HR.out.f 4 (by decide)
      have e5 := HR.out.f 5 (by decide)
      go_wp2_with (fail)
      obtain ⟨z0, z1, z2, z3, z4, z5⟩ := HR.out.put (.int .u64 0) (.int .u64 0) (.int .u64 0) (.int .u64 0) (.int .u64 0) (.int .u64 0)
      refine bodyPost_ret (v := .tuple #[txv zf, .int .i64 (-1), .int .i64 3]) (by simp [results, Tryd.results15, go_sem, z0, z1, z2, z3, z4, z5]) rfl ⟨?_, put6_below HBL.out (Nat.le_refl _)⟩
      rw [HNN.out]
      rfl
    · skip
      go_enter Tryd.func15, Tryd.ntmps15
      go_upto_region 1 with (fail)
      generalize w.alloc (.cells #[.int .u64 0, .int .u64 0, .int .u64 0, .int .u64 0, .int .u64 0, .int .u64 0] 36) = y0 at *
      go_upto_region 4 with (go_at_call 39; (with_reducible refine HD.out.mono ?_); rintro e y1 ⟨⟨a3, n3, c3, a4, n4, c4, rfl, hB3, hK3⟩, hb⟩; obtain rfl : n4 = k.len := hK3.1
                             have HR := Lib.hid ((HR1.out.keep hb).keep (ba y1 (.cells #[.bool false, .slice a3 n3 c3, .slice a4 k.len c4] 79)))
                             have HBL := Lib.hid (bl (bl HB1.out hb) (ba y1 (.cells #[.bool false, .slice a3 n3 c3, .slice a4 k.len c4] 79)))
                             have HI := Lib.hid (Box3.new y1 (.bool false) (.slice a3 n3 c3) (.slice a4 k.len c4) 79)
                             clear hb HD hB3 hK3)
      generalize y1.alloc (.cells #[.bool false, .slice a3 n3 c3, .slice a4 k.len c4] 79) = y2 at *
      obtain ⟨k0, k1, k2, _, _, _⟩ := HI.out
      have g0 := HR.out.k 0 (by decide)
      have g1 := HR.out.k 1 (by decide)
      have g2 := HR.out.k 2 (by decide)
      have g3 := HR.out.k 3 (by decide)
      have g4 := HR.out.k 4 (by decide)
      have g5 := HR.out.k 5 (by decide)
      have e0 := HR.out.f 0 (by decide)
      have e1 := HR.out.f 1 (by decide)
      have e2 := HR.out.f 2 (by decide)
      have e3 := HR.out.f 3 (by decide)
      have e4 := HR.out.f 4 (by decide)
      have e5 := HR.out.f 5 (by decide)
      go_wp2_with (fail)
      obtain ⟨z0, z1, z2, z3, z4, z5⟩ := HR.out.put (.int .u64 0) (.int .u64 0) (.int .u64 0) (.int .u64 0) (.int .u64 0) (.int .u64 0)
      refine bodyPost_ret (v := .tuple #[txv zf, .int .i64 (-1), .int .i64 3]) (by simp [results, Tryd.results15, go_sem, z0, z1, z2, z3, z4, z5]) rfl ⟨?_, put6_below HBL.out (Nat.le_refl _)⟩
      rw [HNN.out]
      rfl
theorem made6 (w : World) : (Instr.makeSlice 84 (.int .i64 6) (.int .i64 6)).run Tryd.prog w = .ok (.slice (some ⟨w.heap.size, 0, none⟩) 6 6) (w.alloc (.cells #[.int .u64 0, .int .u64 0, .int .u64 0, .int .u64 0, .int .u64 0, .int .u64 0] 34)) := by kernel_rfl
set_option maxHeartbeats 2000000 in
set_option maxRecDepth 100000 in
theorem txRDecode_six (w : World) (a : Option Addr) (n c : Nat) (bs : List Bt) (hB : IsB w a n c bs) (x : List Bt) (k : Fo) (jj : Nat) (hD : dec bs = .ok true x k jj) (h6 : k.len = 6) :
    Calls Tryd.prog 15 #[.slice a n c] w fun r w' => rtxOut (txd' k) r ∧ Below w.heap.size w w' := by
  have HB1 := Lib.hid (ba w (.cells #[.int .u64 0, .int .u64 0, .int .u64 0, .int .u64 0, .int .u64 0, .int .u64 0] 36))
  have HR1 : Hid (Box6 (w.alloc (.cells #[.int .u64 0, .int .u64 0, .int .u64 0, .int .u64 0, .int .u64 0, .int .u64 0] 36)) w.heap.size gz) := Lib.hid (Box6.new w gz _)
  have HD := Lib.hid (rdecode_walk _ a n c bs (hB.keep (keep_below HB1.out)))
  rw [hD] at HD
  have HZ1 : Hid (w.heap.size < (w.alloc (.cells #[.int .u64 0, .int .u64 0, .int .u64 0, .int .u64 0, .int .u64 0, .int .u64 0] 36)).heap.size) := Lib.hid (by simp)
  have H6 := Lib.hid h6
  clear hB hD h6
  have mk6 := made6
  go_enter Tryd.func15, Tryd.ntmps15
  go_upto_region 1 with (fail)
  generalize w.alloc (.cells #[.int .u64 0, .int .u64 0, .int .u64 0, .int .u64 0, .int .u64 0, .int .u64 0] 36) = y0 at *
  go_wp2_with (first
    | (go_at_call 39; (with_reducible refine HD.out.mono ?_); rintro e y1 ⟨⟨a3, n3, c3, a4, n4, c4, rfl, hB3, hK3⟩, hb⟩; obtain rfl : n4 = 6 := by rw [hK3.1]; exact H6.out
       have HK := Lib.hid hK3
       have HR := Lib.hid (HR1.out.keep hb)
       have HBL := Lib.hid (bl HB1.out hb)
       have HZ := Lib.hid (show w.heap.size < y1.heap.size by have := HZ1.out; have := hb.size; omega)
       have HI := Lib.hid (Box3.new y1 (.bool true) (.slice a3 n3 c3) (.slice a4 6 c4) 79)
       obtain ⟨k0, k1, k2, _, _, _⟩ := HI.out
       clear hb HD hB3 hK3))
  clear HZ1
  have HT : Hid (Txd w y1.heap.size (y1.heap.size + 1) (.slice a3 n3 c3) a4 c4 k 0 ((y1.alloc (.cells #[.bool true, .slice a3 n3 c3, .slice a4 6 c4] 79)).alloc (.cells #[.int .u64 0, .int .u64 0, .int .u64 0, .int .u64 0, .int .u64 0, .int .u64 0] 34))) := Lib.hid (by
    have h6b : Box6 ((y1.alloc (.cells #[.bool true, .slice a3 n3 c3, .slice a4 6 c4] 79)).alloc (.cells #[.int .u64 0, .int .u64 0, .int .u64 0, .int .u64 0, .int .u64 0, .int .u64 0] 34)) (y1.heap.size + 1) gz := by
      have := Box6.new (y1.alloc (.cells #[.bool true, .slice a3 n3 c3, .slice a4 6 c4] 79)) gz 34
      rw [show (y1.alloc (.cells #[.bool true, .slice a3 n3 c3, .slice a4 6 c4] 79)).heap.size = y1.heap.size + 1 by simp] at this; exact this
    have h14 : Below y1.heap.size y1 ((y1.alloc (.cells #[.bool true, .slice a3 n3 c3, .slice a4 6 c4] 79)).alloc (.cells #[.int .u64 0, .int .u64 0, .int .u64 0, .int .u64 0, .int .u64 0, .int .u64 0] 34)) := bl (ba _ _) (ba _ _)
    exact ⟨bl HBL.out h14, HR.out.keep h14, HI.out.keep (ba _ _), h6b.cong (fun i _ => rfl), HK.out.keep (keep_see fun b o v g1 g2 => ⟨by have := inHeap g2; omega, keep1 h14 g2⟩), HZ.out, Nat.lt_succ_self _⟩)
  clear HK HR HBL HI HR1 HB1 k0 k1 k2 mk6
  generalize (y1.alloc (.cells #[.bool true, .slice a3 n3 c3, .slice a4 6 c4] 79)).alloc (.cells #[.int .u64 0, .int .u64 0, .int .u64 0, .int .u64 0, .int .u64 0, .int .u64 0] 34) = y2 at *
  generalize y1.heap.size + 1 = q6 at *
  go_loopw [9] (fun i y => ∃ j : Nat, i = .int .i64 j ∧ Hid (j ≤ 6 ∧ (∀ i, i < j → stO k i = 0) ∧ Txd w y1.heap.size q6 (.slice a3 n3 c3) a4 c4 k j y)) (fun i _ => 6 - (intOf i).toNat)
  case atStart => exact ⟨0, rfl, Lib.hid ⟨Nat.zero_le _, fun i h => absurd h (Nat.not_lt_zero i), HT.out⟩⟩
  case round =>
    obtain ⟨j, rfl, hp⟩ := hrel
    clear HT
    have HL := Lib.hid hp.out.2.2
    by_cases hlt : (j : Int) < 6
    · have HST := Lib.hid hp.out.2.1
      have HJ := Lib.hid (show j < 6 ∧ wrap64 ((j : Int) + 1) = ((j + 1 : Nat) : Int) by refine ⟨by omega, ?_⟩; unfold wrap64; omega)
      obtain ⟨b, o, l1, bs1, k1, a1, n1, c1, a2, n2, c2, rfl, hdr, hb1, hk1, G0, G1, G2⟩ := (HL.out.kids.keep (see_keep _ _)).at (show j < 6 by omega)
      obtain ⟨hst, htx⟩ := stO_at hdr
      have HVW := Lib.hid (value_walk wr l1 n1 c1 n2 c2 a1 a2 bs1 hb1).2
      obtain ⟨x0, x1, x2, _, _, _⟩ := HL.out.it
      have HNJ := Lib.hid hst
      have HTX := Lib.hid htx
      clear hp hdr hb1 hk1 hst htx
      by_cases hval : valW l1 bs1 = 0
      · rw [if_pos hval, hval] at HVW
        rw [if_pos hval] at HNJ
        clear hval
        generalize num 0 bs1 = V at *
        have HIN : Hid (inOk j V = (if j < 2 then decide (V < 64) else if j = 4 then decide (V ≤ 96) else true)) := Lib.hid (by
          unfold inOk
          by_cases h2 : j < 2
          · rw [if_pos h2, if_pos (by omega)]
          · rw [if_neg h2, if_neg (by omega)])
        have hx : ∀ y, Txd w y1.heap.size q6 (.slice a3 n3 c3) (some ⟨b, o, none⟩) c4 k j y → y.cell? ⟨q6, j, none⟩ = some (.int .u64 0) := fun y h => by have := h.tx.k j HJ.out.1; simpa [gj] using this
        have HX := Lib.hid hx
        clear hx
        by_cases hj2 : j < 2
        · by_cases hv : V < 64
          · have HNK : Hid (stO k j = 0) := Lib.hid (by rw [HNJ.out, HIN.out, if_pos hj2, decide_eq_true hv]; rfl)
            have f1 : (j : Int) < 2 := by omega
            have f2 : ¬ (64 : Int) ≤ V := by omega
            have f4 : ((j : Int) == 4) = false := beq_eq_false_iff_ne.2 (by omega)
            clear HNJ HIN hj2 hv
            go_wp2_with (go_at_call 40; (with_reducible refine HVW.out.mono ?_); rintro e y5 ⟨rfl, hb⟩; have HL5 := Lib.hid (HL.out.next hb); have c0 := HX.out _ HL5.out; have c1 := HL5.out.tx.f j HJ.out.1; clear hb HVW)
            try rw [HJ.out.2]
            go_roundw
            case rel => exact ⟨j + 1, rfl, Lib.hid ⟨HJ.out.1, fun i hi => by
              by_cases e : i = j
              · rw [e]; exact HNK.out
              · exact HST.out i (by omega), by have := HL5.out.put HJ.out.1; rw [HTX.out] at this; exact this⟩⟩
            case measure => have := HJ.out.1; show 6 - (j + 1) < 6 - j; omega
          · have HNK : Hid (stO k j = 2) := Lib.hid (by rw [HNJ.out, HIN.out, if_pos hj2, decide_eq_false hv]; rfl)
            have f1 : (j : Int) < 2 := by omega
            have f2 : (64 : Int) ≤ V := by omega
            clear HNJ HIN hj2 hv
            go_wp2_with (go_at_call 40; (with_reducible refine HVW.out.mono ?_); rintro e y5 ⟨rfl, hb⟩; have HL5 := Lib.hid (HL.out.next hb)
                         have HR := Lib.hid HL5.out.res
                         have g0 := HR.out.k 0 (by decide)
                         have g1 := HR.out.k 1 (by decide)
                         have g2 := HR.out.k 2 (by decide)
                         have g3 := HR.out.k 3 (by decide)
                         have g4 := HR.out.k 4 (by decide)
                         have g5 := HR.out.k 5 (by decide)
                         have e0 := HR.out.f 0 (by decide)
                         have e1 := HR.out.f 1 (by decide)
                         have e2 := HR.out.f 2 (by decide)
                         have e3 := HR.out.f 3 (by decide)
                         have e4 := HR.out.f 4 (by decide)
                         have e5 := HR.out.f 5 (by decide)
                         clear hb HVW)
            obtain ⟨z0, z1, z2, z3, z4, z5⟩ := HR.out.put (.int .u64 0) (.int .u64 0) (.int .u64 0) (.int .u64 0) (.int .u64 0) (.int .u64 0)
            refine bodyPost_ret (v := .tuple #[txv zf, .int .i64 j, .int .i64 2]) (by simp [results, Tryd.results15, go_sem, z0, z1, z2, z3, z4, z5]) rfl ⟨?_, put6_below HL5.out.below (Nat.le_refl _)⟩
            rw [txd_bad HJ.out.1 HST.out (by rw [HNK.out]; decide), HNK.out]
            rfl
        · by_cases hj4 : j = 4
          · by_cases hv : V ≤ 96
            · have HNK : Hid (stO k j = 0) := Lib.hid (by rw [HNJ.out, HIN.out, if_neg hj2, if_pos hj4, decide_eq_true hv]; rfl)
              have f1 : ¬ (j : Int) < 2 := by omega
              have f2 : ¬ (96 : Int) < V := by omega
              have f4 : ((j : Int) == 4) = true := beq_iff_eq.2 (by omega)
              clear HNJ HIN hj2 hv hj4
              go_wp2_with (go_at_call 40; (with_reducible refine HVW.out.mono ?_); rintro e y5 ⟨rfl, hb⟩; have HL5 := Lib.hid (HL.out.next hb); have c0 := HX.out _ HL5.out; have c1 := HL5.out.tx.f j HJ.out.1; clear hb HVW)
              try rw [HJ.out.2]
              go_roundw
              case rel => exact ⟨j + 1, rfl, Lib.hid ⟨HJ.out.1, fun i hi => by
                by_cases e : i = j
                · rw [e]; exact HNK.out
                · exact HST.out i (by omega), by have := HL5.out.put HJ.out.1; rw [HTX.out] at this; exact this⟩⟩
              case measure => have := HJ.out.1; show 6 - (j + 1) < 6 - j; omega
            · have HNK : Hid (stO k j = 2) := Lib.hid (by rw [HNJ.out, HIN.out, if_neg hj2, if_pos hj4, decide_eq_false hv]; rfl)
              have f1 : ¬ (j : Int) < 2 := by omega
              have f2 : (96 : Int) < V := by omega
              have f4 : ((j : Int) == 4) = true := beq_iff_eq.2 (by omega)
              clear HNJ HIN hj2 hv hj4
              go_wp2_with (go_at_call 40; (with_reducible refine HVW.out.mono ?_); rintro e y5 ⟨rfl, hb⟩; have HL5 := Lib.hid (HL.out.next hb)
                           have HR := Lib.hid HL5.out.res
                           have g0 := HR.out.k 0 (by decide)
                           have g1 := HR.out.k 1 (by decide)
                           have g2 := HR.out.k 2 (by decide)
                           have g3 := HR.out.k 3 (by decide)
                           have g4 := HR.out.k 4 (by decide)
                           have g5 := HR.out.k 5 (by decide)
                           have e0 := HR.out.f 0 (by decide)
                           have e1 := HR.out.f 1 (by decide)
                           have e2 := HR.out.f 2 (by decide)
                           have e3 := HR.out.f 3 (by decide)
                           have e4 := HR.out.f 4 (by decide)
                           have e5 := HR.out.f 5 (by decide)
                           clear hb HVW)
              obtain ⟨z0, z1, z2, z3, z4, z5⟩ := HR.out.put (.int .u64 0) (.int .u64 0) (.int .u64 0) (.int .u64 0) (.int .u64 0) (.int .u64 0)
              refine bodyPost_ret (v := .tuple #[txv zf, .int .i64 j, .int .i64 2]) (by simp [results, Tryd.results15, go_sem, z0, z1, z2, z3, z4, z5]) rfl ⟨?_, put6_below HL5.out.below (Nat.le_refl _)⟩
              rw [txd_bad HJ.out.1 HST.out (by rw [HNK.out]; decide), HNK.out]
              rfl
          · have HNK : Hid (stO k j = 0) := Lib.hid (by rw [HNJ.out, HIN.out, if_neg hj2, if_neg hj4]; rfl)
            have f1 : ¬ (j : Int) < 2 := by omega
            have f4 : ((j : Int) == 4) = false := beq_eq_false_iff_ne.2 (by omega)
            clear HNJ HIN hj2 hj4
            go_wp2_with (go_at_call 40; (with_reducible refine HVW.out.mono ?_); rintro e y5 ⟨rfl, hb⟩; have HL5 := Lib.hid (HL.out.next hb); have c0 := HX.out _ HL5.out; have c1 := HL5.out.tx.f j HJ.out.1; clear hb HVW)
            try rw [HJ.out.2]
            go_roundw
            case rel => exact ⟨j + 1, rfl, Lib.hid ⟨HJ.out.1, fun i hi => by
              by_cases e : i = j
              · rw [e]; exact HNK.out
              · exact HST.out i (by omega), by have := HL5.out.put HJ.out.1; rw [HTX.out] at this; exact this⟩⟩
            case measure => have := HJ.out.1; show 6 - (j + 1) < 6 - j; omega
      · rw [if_neg hval] at HVW
        rw [if_neg hval] at HNJ
        have HVN := Lib.hid hval
        have hkn : (valW l1 bs1 != 0) = true := by simpa using hval
        generalize valW l1 bs1 = K at *
        clear hval
        go_wp2_with (go_at_call 40; (with_reducible refine HVW.out.mono ?_); rintro e y5 ⟨rfl, hb⟩; have HL5 := Lib.hid (HL.out.next hb)
                     have HR := Lib.hid HL5.out.res
                     have g0 := HR.out.k 0 (by decide)
                     have g1 := HR.out.k 1 (by decide)
                     have g2 := HR.out.k 2 (by decide)
                     have g3 := HR.out.k 3 (by decide)
                     have g4 := HR.out.k 4 (by decide)
                     have g5 := HR.out.k 5 (by decide)
                     have e0 := HR.out.f 0 (by decide)
                     have e1 := HR.out.f 1 (by decide)
                     have e2 := HR.out.f 2 (by decide)
                     have e3 := HR.out.f 3 (by decide)
                     have e4 := HR.out.f 4 (by decide)
                     have e5 := HR.out.f 5 (by decide)
                     clear hb HVW)
        obtain ⟨z0, z1, z2, z3, z4, z5⟩ := HR.out.put (.int .u64 0) (.int .u64 0) (.int .u64 0) (.int .u64 0) (.int .u64 0) (.int .u64 0)
        refine bodyPost_ret (v := .tuple #[txv zf, .int .i64 j, .int .i64 K]) (by simp [results, Tryd.results15, go_sem, z0, z1, z2, z3, z4, z5]) rfl ⟨?_, put6_below HL5.out.below (Nat.le_refl _)⟩
        rw [txd_bad HJ.out.1 HST.out (by rw [HNJ.out]; exact HVN.out), HNJ.out]
        rfl
    · obtain rfl : j = 6 := by have := hp.out.1; omega
      have HG := Lib.hid (txd_good hp.out.2.1)
      clear hp
      have c0 : wr.cell? ⟨q6, 0, none⟩ = some (.int .u64 (txf k 0)) := HL.out.tx.k 0 (by decide)
      have c1 : wr.cell? ⟨q6, 1, none⟩ = some (.int .u64 (txf k 1)) := HL.out.tx.k 1 (by decide)
      have c2 : wr.cell? ⟨q6, 2, none⟩ = some (.int .u64 (txf k 2)) := HL.out.tx.k 2 (by decide)
      have c3 : wr.cell? ⟨q6, 3, none⟩ = some (.int .u64 (txf k 3)) := HL.out.tx.k 3 (by decide)
      have c4 : wr.cell? ⟨q6, 4, none⟩ = some (.int .u64 (txf k 4)) := HL.out.tx.k 4 (by decide)
      have c5 : wr.cell? ⟨q6, 5, none⟩ = some (.int .u64 (txf k 5)) := HL.out.tx.k 5 (by decide)
      go_upto_region 16 with (fail)
      go_still_tail 19, (by kernel_rfl)
      change wpList _ _ _ _ _ wr.drew
      clear c0 c1 c2 c3 c4 c5
      have HLd := Lib.hid (HL.out.next (Below.refl _ _).drew)
      generalize wr.drew = wd at *
      have c0 : wd.cell? ⟨q6, 0, none⟩ = some (.int .u64 (txf k 0)) := HLd.out.tx.k 0 (by decide)
      have c1 : wd.cell? ⟨q6, 1, none⟩ = some (.int .u64 (txf k 1)) := HLd.out.tx.k 1 (by decide)
      have c2 : wd.cell? ⟨q6, 2, none⟩ = some (.int .u64 (txf k 2)) := HLd.out.tx.k 2 (by decide)
      have c3 : wd.cell? ⟨q6, 3, none⟩ = some (.int .u64 (txf k 3)) := HLd.out.tx.k 3 (by decide)
      have c4 : wd.cell? ⟨q6, 4, none⟩ = some (.int .u64 (txf k 4)) := HLd.out.tx.k 4 (by decide)
      have c5 : wd.cell? ⟨q6, 5, none⟩ = some (.int .u64 (txf k 5)) := HLd.out.tx.k 5 (by decide)
      have HR := Lib.hid HLd.out.res
      have g0 := HR.out.k 0 (by decide)
      have g1 := HR.out.k 1 (by decide)
      have g2 := HR.out.k 2 (by decide)
      have g3 := HR.out.k 3 (by decide)
      have g4 := HR.out.k 4 (by decide)
      have g5 := HR.out.k 5 (by decide)
      have e0 := HR.out.f 0 (by decide)
      have e1 := HR.out.f 1 (by decide)
      have e2 := HR.out.f 2 (by decide)
      have e3 := HR.out.f 3 (by decide)
      have e4 := HR.out.f 4 (by decide)
      have e5 := HR.out.f 5 (by decide)
      go_wp2_with (fail)
      obtain ⟨z0, z1, z2, z3, z4, z5⟩ := HR.out.put (.int .u64 (txf k 0)) (.int .u64 (txf k 1)) (.int .u64 (txf k 2)) (.int .u64 (txf k 3)) (.int .u64 (txf k 4)) (.int .u64 (txf k 5))
      refine bodyPost_ret (v := .tuple #[txv (txf k), .int .i64 (-1), .int .i64 0]) (by simp [results, Tryd.results15, go_sem, z0, z1, z2, z3, z4, z5]) rfl ⟨?_, put6_below HLd.out.below (Nat.le_refl _)⟩
      rw [HG.out]
      rfl
theorem txRDecode_walk (w : World) (a : Option Addr) (n c : Nat) (bs : List Bt) (hB : IsB w a n c bs) :
    Calls Tryd.prog 15 #[.slice a n c] w fun r w' => rtxOut (txd bs) r ∧ Below w.heap.size w w' := by
  by_cases h : ∃ x k j, dec bs = .ok true x k j ∧ k.len = 6
  · obtain ⟨x, k, j, hD, h6⟩ := h
    have e : txd bs = txd' k := by unfold txd; rw [hD]; exact if_pos ⟨rfl, h6⟩
    rw [e]
    exact txRDecode_six w a n c bs hB x k j hD h6
  · exact txRDecode_none w a n c bs hB fun l x k j hD hc => h ⟨x, k, j, by rw [hD, hc.1], hc.2⟩
end Rl
end Go.Proofs.YtkhdamjjbjmeaaaDoor
