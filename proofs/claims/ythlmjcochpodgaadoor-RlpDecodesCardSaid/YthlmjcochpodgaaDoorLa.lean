/-
  RlpApart. Own work.
-/
import Derived.Test.YthlmjcochpodgaaDoorLc
import Derived.Laws.Strings
namespace Go.Proofs.YthlmjcochpodgaaDoor
open Go.ChangeShapes Go.WideShapes Go.Deep Go.RowKit
set_option linter.unusedVariables false
set_option linter.unusedSimpArgs false
namespace Rl
theorem str_beq (a b : List Bt) : ((str a).toList == (str b).toList) = decide (a = b) := by
  have e : ∀ x : List Bt, (str x).toList = x.map fun y => UInt8.ofBitVec y := fun x => ByteArray.toList_mk _
  by_cases h : a = b
  · subst h; simp
  · rw [decide_eq_false h, beq_eq_false_iff_ne]
    intro h2
    rw [e, e] at h2
    exact h ((List.map_inj_right (fun x y h => by simpa using h)).1 h2)
theorem run_min2 {P : Program} {ts : Array TypeId} {t : TypeId} {k : IntKind} (a b : Int) (w : World) :
    (Builtin.min_ ts t #[.int k a, .int k b]).run P w = .ok (.int k (min a b)) w := by
  have e : (if b < a then b else a) = min a b := by split <;> omega
  simp [Builtin.min_, Builtin.min2, e]
/-- Of two forms neither begins the other, unless they are the same. -/
theorem pre_eq {F H : List Bt} {l l' : Bool} {x x' : List Bt} {k k' : Fo} {i j : Nat} (hF : dec F = .ok l x k i) (hH : dec H = .ok l' x' k' j) (cF : ∀ m, m < F.length → ∃ p w, dec (F.take m) = .bad p w) (cH : ∀ m, m < H.length → ∃ p w, dec (H.take m) = .bad p w)
    (h : F.take (min F.length H.length) = H.take (min F.length H.length)) : F = H := by
  rcases Nat.lt_trichotomy F.length H.length with h1 | h1 | h1
  · rw [Nat.min_eq_left (by omega), List.take_length] at h
    obtain ⟨p, w, h2⟩ := cH _ h1
    rw [← h, hF] at h2; cases h2
  · rw [Nat.min_eq_left (by omega), List.take_length, h1, List.take_length] at h; exact h
  · rw [Nat.min_eq_right (by omega), List.take_length] at h
    obtain ⟨p, w, h2⟩ := cF _ h1
    rw [h, hH] at h2; cases h2
/-- Any Encode. -/
theorem enc_any (w : World) (l : Bool) (n c n' c' : Nat) (a a' : Option Addr) (bs : List Bt) (k : Fo) (hB : IsB w a n c bs) (hK : IsK w a' n' c' k) (hg : great bs.length k = false) :
    Calls Tryd.prog 13 #[.agg #[.bool l, .slice a n c, .slice a' n' c']] w fun e w' => (∃ a5 n5 c5, e = .returned (.tuple #[.slice a5 n5 c5, if encW l bs k = 0 then .nilIface else eN (encW l bs k)])) ∧ Below w.heap.size w w' := by
  refine (encode_walk w l n c n' c' a a' bs k hB hK (great_form hg)).mono ?_
  rintro e w' ⟨V, h1, h2, h3⟩
  obtain ⟨a5, c5, rfl, _⟩ := h2.isB
  exact ⟨⟨a5, _, c5, h1⟩, h3⟩
/-- Two boxes of items, the call's own. -/
theorem two_boxes (w : World) (l : Bool) (b1 b2 : Value) (l' : Bool) (d1 d2 : Value) :
    Below w.heap.size w ((w.alloc (.cells #[.bool l, b1, b2] 25)).alloc (.cells #[.bool l', d1, d2] 25)) ∧ Box3 ((w.alloc (.cells #[.bool l, b1, b2] 25)).alloc (.cells #[.bool l', d1, d2] 25)) w.heap.size (.bool l) b1 b2 ∧
    Box3 ((w.alloc (.cells #[.bool l, b1, b2] 25)).alloc (.cells #[.bool l', d1, d2] 25)) (w.heap.size + 1) (.bool l') d1 d2 := by
  refine ⟨bl (ba _ _) (ba _ _), (Box3.new w _ _ _ _).keep (ba _ _), ?_⟩
  have := Box3.new (w.alloc (.cells #[.bool l, b1, b2] 25)) (.bool l') d1 d2 25
  rw [show (w.alloc (.cells #[.bool l, b1, b2] 25)).heap.size = w.heap.size + 1 by simp] at this; exact this
set_option maxHeartbeats 4000000 in
set_option maxRecDepth 100000 in
theorem rlpApart_walk (w : World) (l : Bool) (n c n' c' : Nat) (a a' : Option Addr) (bs : List Bt) (k : Fo) (l2 : Bool) (n2 c2 n2' c2' : Nat) (a2 a2' : Option Addr) (bs2 : List Bt) (kz : Fo) (hB : IsB w a n c bs) (hK : IsK w a' n' c' k) (hl : bs.length ≤ reachBytes) (hf : k.fit)
    (hB2 : IsB w a2 n2 c2 bs2) (hK2 : IsK w a2' n2' c2' kz) (hl2 : bs2.length ≤ reachBytes) (hf2 : kz.fit) (hg : Et w) :
    Calls Tryd.prog 6 #[.agg #[.bool l, .slice a n c, .slice a' n' c'], .agg #[.bool l2, .slice a2 n2 c2, .slice a2' n2' c2']] w fun e w' => e = .returned (.bool true) ∧ Below w.heap.size w w' := by
  have H0 := Lib.hid (two_boxes w l (.slice a n c) (.slice a' n' c') l2 (.slice a2 n2 c2) (.slice a2' n2' c2'))
  have HG := Lib.hid hg
  have HX := Lib.hid (And.intro hB hK)
  have HY := Lib.hid (And.intro hB2 hK2)
  have HGX := Lib.hid (fun y (hy : Below w.heap.size w y) => great_here y l n c n' c' a a' bs k (hB.keep (keep_below hy)) (hK.keep (keep_below hy)) hl hf)
  have HGY := Lib.hid (fun y (hy : Below w.heap.size w y) => great_here y l2 n2 c2 n2' c2' a2 a2' bs2 kz (hB2.keep (keep_below hy)) (hK2.keep (keep_below hy)) hl2 hf2)
  clear hB hK hl hf hB2 hK2 hl2 hf2 hg
  cases hG : great bs.length k with
  | true =>
    rw [hG] at HGX
    clear hG
    go_enter Tryd.func6, Tryd.ntmps6
    go_wp2_with (first
      | (go_at_call 16; (with_reducible refine (HGX.out _ H0.out.1).mono ?_); rintro e y1 ⟨rfl, hb⟩; have H1 := Lib.hid (bl H0.out.1 hb); obtain ⟨k0, k1, k2, _, _, _⟩ := H0.out.2.2.keep hb; have HB1 := Lib.hid (H0.out.2.1.keep hb); have HB2 := Lib.hid (H0.out.2.2.keep hb); clear hb HGX)
      | (go_at_call 15; (with_reducible refine (fixed_walk _ (HG.out.next H1.out)).mono ?_); rintro e yf ⟨rfl, hb⟩; have HFX := Lib.hid (bl H1.out hb); clear hb))
    go_ret
    exact ⟨rfl, HFX.out⟩
  | false =>
    rw [hG] at HGX
    have HGX2 := Lib.hid hG
    clear hG
    cases hG : great bs2.length kz with
    | true =>
      rw [hG] at HGY
      clear hG
      go_enter Tryd.func6, Tryd.ntmps6
      go_wp2_with (first
        | (go_at_call 16; (with_reducible refine (HGX.out _ H0.out.1).mono ?_); rintro e y1 ⟨rfl, hb⟩; have H1 := Lib.hid (bl H0.out.1 hb); obtain ⟨k0, k1, k2, _, _, _⟩ := H0.out.2.2.keep hb; have HB1 := Lib.hid (H0.out.2.1.keep hb); have HB2 := Lib.hid (H0.out.2.2.keep hb); clear hb HGX)
        | (go_at_call 16; (with_reducible refine (HGY.out _ H1.out).mono ?_); rintro e y2 ⟨rfl, hb⟩; have H2 := Lib.hid (bl H1.out hb); clear k0 k1 k2; obtain ⟨k0, k1, k2, _, _, _⟩ := HB1.out.keep hb; have HC1 := Lib.hid (HB1.out.keep hb); have HC2 := Lib.hid (HB2.out.keep hb); clear hb HGY HB1 HB2)
        | (go_at_call 15; (with_reducible refine (fixed_walk _ (HG.out.next H2.out)).mono ?_); rintro e yf ⟨rfl, hb⟩; have HFX := Lib.hid (bl H2.out hb); clear hb))
      go_ret
      exact ⟨rfl, HFX.out⟩
    | false =>
      rw [hG] at HGY
      have HGY2 := Lib.hid hG
      clear hG
      by_cases hE : encW l bs k = 0
      · by_cases hE2 : encW l2 bs2 kz = 0
        · have HE := Lib.hid (fun y n c n' c' a a' hB hK => enc_good y l n c n' c' a a' bs k hB hK hE)
          have HE2 := Lib.hid (fun y n c n' c' a a' hB hK => enc_good y l2 n c n' c' a a' bs2 kz hB hK hE2)
          have hF := And.intro (wrap_pos hE) (And.intro (enc_zero.1 hE).2.2.2 (And.intro (fun m (hm : m < _) => dec_cut hE hm) (enc_dec hE)))
          have hH := And.intro (wrap_pos hE2) (And.intro (enc_zero.1 hE2).2.2.2 (And.intro (fun m (hm : m < _) => dec_cut hE2 hm) (enc_dec hE2)))
          clear hE hE2
          generalize wrap l bs k.form = F at *
          generalize wrap l2 bs2 kz.form = H at *
          have hpre := fun h => pre_eq (F := F) (H := H) hF.2.2.2 hH.2.2.2 hF.2.2.1 hH.2.2.1 h
          obtain ⟨T1, hT1⟩ : ∃ T, F.take (min F.length H.length) = T := ⟨_, rfl⟩
          obtain ⟨T2, hT2⟩ : ∃ T, H.take (min F.length H.length) = T := ⟨_, rfl⟩
          have hTT : decide (T1 = T2) = decide (F = H) := by
            rw [← hT1, ← hT2]
            by_cases h : F = H
            · rw [decide_eq_true h, decide_eq_true (by rw [h])]
            · rw [decide_eq_false h, decide_eq_false (fun h2 => h (hpre h2))]
          obtain ⟨N, hN⟩ : ∃ N, F.length = N := ⟨_, rfl⟩
          obtain ⟨M, hM⟩ : ∃ M, H.length = M := ⟨_, rfl⟩
          have hNM : (decide (F = H) = true → N = M) := fun h => by rw [← hN, ← hM, of_decide_eq_true h]
          rw [hN, hM] at hT1 hT2
          rw [hN] at HE hF
          rw [hM] at HE2 hH
          obtain ⟨m, hm⟩ : ∃ m, min N M = m := ⟨_, rfl⟩
          rw [hm] at hT1 hT2
          have HM := Lib.hid (show m ≤ N ∧ m ≤ M ∧ 0 < N ∧ 0 < M ∧ N ≤ 4096 ∧ M ≤ 4096 by have := hF.1; have := hH.1; have := hF.2.1; have := hH.2.1; omega)
          have hmin : ∀ (ts : Array TypeId) (t : TypeId) (w : World), (Builtin.min_ ts t #[.int .i64 (N : Int), .int .i64 (M : Int)]).run Tryd.prog w = .ok (.int .i64 (m : Int)) w := fun ts t w => by
            rw [run_min2]; congr 2; omega
          have HT := Lib.hid (And.intro hT1 hT2)
          have HFD := Lib.hid hF.2.2.2
          have HHD := Lib.hid hH.2.2.2
          have HTT := Lib.hid hTT
          have HNM := Lib.hid hNM
          have HNL := Lib.hid (And.intro hN hM)
          clear hT1 hT2 hF hH hpre hTT hN hM hm hNM
          go_enter Tryd.func6, Tryd.ntmps6
          go_upto_region 14 with (first
            | (go_at_call 16; (with_reducible refine (HGX.out _ H0.out.1).mono ?_); rintro e y1 ⟨rfl, hb⟩; have H1 := Lib.hid (bl H0.out.1 hb); obtain ⟨k0, k1, k2, _, _, _⟩ := H0.out.2.2.keep hb; have HB1 := Lib.hid (H0.out.2.1.keep hb); have HB2 := Lib.hid (H0.out.2.2.keep hb); clear hb HGX)
            | (go_at_call 16; (with_reducible refine (HGY.out _ H1.out).mono ?_); rintro e y2 ⟨rfl, hb⟩; have H2 := Lib.hid (bl H1.out hb); clear k0 k1 k2; obtain ⟨k0, k1, k2, _, _, _⟩ := HB1.out.keep hb; have HC1 := Lib.hid (HB1.out.keep hb); have HC2 := Lib.hid (HB2.out.keep hb); clear hb HGY HB1 HB2)
            | (go_at_call 17; (with_reducible refine (copied_walk _ l n c n' c' a a' bs k (HX.out.1.keep (keep_below H2.out)) (HX.out.2.keep (keep_below H2.out)) (great_tot HGX2.out)).mono ?_); rintro e y3 ⟨⟨a3, n3, c3, a4, n4, c4, rfl, hB3, hK3⟩, hb⟩; have H3 := Lib.hid (bl H2.out hb); have HI3 := Lib.hid (And.intro (hB3.keep (see_keep _ _)) (hK3.keep (see_keep _ _))); have HD2 := Lib.hid (HC2.out.keep hb); clear hb hB3 hK3 k0 k1 k2 HC1 HC2)
            | (go_at_call 13; first
               | ((with_reducible refine (HE.out _ _ _ _ _ _ _ HI3.out.1 HI3.out.2).mono ?_); rintro e y4 ⟨a5, c5, rfl, hO, hb⟩; have H4 := Lib.hid (bl H3.out hb); have HOA := Lib.hid hO.asB; obtain ⟨k0, k1, k2, _, _, _⟩ := HD2.out.keep hb; clear hb hO HI3 HD2)
               | ((with_reducible refine (HE2.out _ _ _ _ _ _ _ HI5.out.1 HI5.out.2).mono ?_); rintro e y6 ⟨a6, c6, rfl, hO, hb⟩; have H6 := Lib.hid (bl H5.out hb); have HOB := Lib.hid (And.intro hO.asB (HOA.out.keep (keep_below hb))); clear hb hO HI5 HOA)
               | ((with_reducible refine (HE.out _ _ _ _ _ _ _ HI8.out.1 HI8.out.2).mono ?_); rintro e yA ⟨aA, cA, rfl, hO, hb⟩; have HA := Lib.hid (bl H8.out hb); have HOC := Lib.hid (And.intro hO.asB (And.intro (HOB.out.1.keep (keep_below hb)) (HOB.out.2.keep (keep_below hb)))); have HI9 := Lib.hid (And.intro (HI9.out.1.keep (keep_below hb)) (HI9.out.2.keep (keep_below hb))); clear k0 k1 k2; obtain ⟨k0, k1, k2, _, _, _⟩ := HX9.out.keep hb; clear hb hO HI8 HOB HX9)
               | ((with_reducible refine (HE2.out _ _ _ _ _ _ _ HI9.out.1 HI9.out.2).mono ?_); rintro e yB ⟨aB, cB, rfl, hO, hb⟩; have HB := Lib.hid (bl HA.out hb); have HOD := Lib.hid (And.intro hO.asB (And.intro (HOC.out.1.keep (keep_below hb)) (And.intro (HOC.out.2.1.keep (keep_below hb)) (HOC.out.2.2.keep (keep_below hb))))); clear hb hO HI9 HOC))
            | (go_at_call 17; (with_reducible refine (copied_walk _ l2 n2 c2 n2' c2' a2 a2' bs2 kz (HY.out.1.keep (keep_below H4.out)) (HY.out.2.keep (keep_below H4.out)) (great_tot HGY2.out)).mono ?_); rintro e y5 ⟨⟨a7, n7, c7, a8, n8, c8, rfl, hB3, hK3⟩, hb⟩; have H5 := Lib.hid (bl H4.out hb); have HI5 := Lib.hid (And.intro (hB3.keep (see_keep _ _)) (hK3.keep (see_keep _ _))); have HOA := Lib.hid (HOA.out.keep (keep_below hb)); clear hb hB3 hK3 k0 k1 k2)
            | (go_at_call 14; first
               | ((with_reducible refine (decode_walk _ _ _ _ _ HOB.out.2).mono ?_); rintro e y7 ⟨hd, hb⟩; rw [HFD.out] at hd; obtain ⟨d1, e1, f1, d2, e2, f2, rfl, hB3, hK3⟩ := hd
                  have hba := ba y7 (.cells #[.bool l, .slice d1 e1 f1, .slice d2 e2 f2] 25)
                  have H7 := Lib.hid (bl (bl H6.out hb) hba)
                  have HI7 := Lib.hid (And.intro ((hB3.keep (see_keep _ _)).keep (keep_below hba)) ((hK3.keep (see_keep _ _)).keep (keep_below hba)))
                  have HX7 := Lib.hid (Box3.new y7 (.bool l) (.slice d1 e1 f1) (.slice d2 e2 f2) 25)
                  have HOB := Lib.hid (And.intro (HOB.out.1.keep (keep_below (bl hb hba))) (HOB.out.2.keep (keep_below (bl hb hba))))
                  clear hb hB3 hK3 hba)
               | ((with_reducible refine (decode_walk _ _ _ _ _ HOB.out.1).mono ?_); rintro e y8 ⟨hd, hb⟩; rw [HHD.out] at hd; obtain ⟨d3, e3, f3, d4, e4, f4, rfl, hB3, hK3⟩ := hd
                  have hba := ba y8 (.cells #[.bool l2, .slice d3 e3 f3, .slice d4 e4 f4] 25)
                  have H8 := Lib.hid (bl (bl H7.out hb) hba)
                  have HI8 := Lib.hid (And.intro (HI7.out.1.keep (keep_below (bl hb hba))) (HI7.out.2.keep (keep_below (bl hb hba))))
                  have HI9 := Lib.hid (And.intro ((hB3.keep (see_keep _ _)).keep (keep_below hba)) ((hK3.keep (see_keep _ _)).keep (keep_below hba)))
                  have HX9 := Lib.hid (Box3.new y8 (.bool l2) (.slice d3 e3 f3) (.slice d4 e4 f4) 25)
                  obtain ⟨k0, k1, k2, _, _, _⟩ := HX7.out.keep (bl hb hba)
                  have HOB := Lib.hid (And.intro (HOB.out.1.keep (keep_below (bl hb hba))) (HOB.out.2.keep (keep_below (bl hb hba))))
                  clear hb hB3 hK3 hba HX7 HI7)))
          have hs1 : ((str T1).toList == (str T2).toList) = decide (F = H) := by rw [str_beq, HTT.out]
          have hs2 : ((str F).toList == (str H).toList) = decide (F = H) := str_beq F H
          have hNM := HNM.out
          obtain ⟨b5, o5, rfl⟩ : ∃ b o, a5 = some ⟨b, o, none⟩ := by
            rcases HOD.out.2.2.2.2.2.2.2 with h | ⟨b, o, e, _⟩
            · have := HM.out; omega
            · exact ⟨b, o, e⟩
          obtain ⟨b6, o6, rfl⟩ : ∃ b o, a6 = some ⟨b, o, none⟩ := by
            rcases HOD.out.2.2.1.2.2.2.2 with h | ⟨b, o, e, _⟩
            · have := HM.out; omega
            · exact ⟨b, o, e⟩
          have HS : Hid (Below yB.heap.size yB yB.drew) := Lib.hid (Below.refl _ _).drew
          have HV1 := Lib.hid (fun y (hy : Below yB.heap.size yB y) => conv_str (show IsB y (some ⟨b5, o5, none⟩) m c5 T1 by
            have := (HOD.out.2.2.2.sub (i := 0) (m := m) (by have := HM.out; omega)).keep (keep_below hy)
            rw [← HT.out.1]; simpa [slc] using this))
          have HV2 := Lib.hid (fun y (hy : Below yB.heap.size yB y) => conv_str (show IsB y (some ⟨b6, o6, none⟩) m c6 T2 by
            have := (HOD.out.2.2.1.sub (i := 0) (m := m) (by have := HM.out; omega)).keep (keep_below hy)
            rw [← HT.out.2]; simpa [slc] using this))
          have hc5 : ¬ c5 = 0 := by have := HM.out; have := HOD.out.2.2.2.2.1; omega
          have hc6 : ¬ c6 = 0 := by have := HM.out; have := HOD.out.2.2.1.2.1; omega
          have hm5 : (m : Int) ≤ (c5 : Int) := by have := HM.out; have := HOD.out.2.2.2.2.1; omega
          have hm6 : (m : Int) ≤ (c6 : Int) := by have := HM.out; have := HOD.out.2.2.1.2.1; omega
          have hm0 : (0 : Int) ≤ (m : Int) := by omega
          clear hmin k0 k1 k2
          generalize decide (F = H) = D at *
          refine wp_region_og (fun y => Below yB.heap.size yB y) (.take 0 (.take 1 (.take 2 (.take 3 (.take 4 (.one 5 (.one 6 (.one 7 (.one 8 (.one 9 .done)))))))))) (by kernel_rfl) (by kernel_rfl) HS.out ?_
          generalize yB.drew = yC at *
          have hv2 := HV2.out _ HS.out
          refine og_tk (some 76) (.slice (some ⟨b5, o5, none⟩) N c5) rfl rfl (by go_simp) (fun _ _ => rfl) ?_
          simp only [Act.put, List.setIfInBounds_toArray, List.set_cons_zero, List.set_cons_succ]
          refine og_tk (some 77) (.int .i64 m) rfl rfl (by go_simp) (fun _ _ => rfl) ?_
          simp only [Act.put, List.setIfInBounds_toArray, List.set_cons_zero, List.set_cons_succ]
          refine og_tk (some 78) (.slice (some ⟨b5, o5, none⟩) m c5) rfl rfl (by go_simp) (fun _ _ => by simp [execOp, go_sem, hc5, hm5, hm0]) ?_
          simp only [Act.put, List.setIfInBounds_toArray, List.set_cons_zero, List.set_cons_succ]
          refine og_str (some 79) 22 9 (.tmp 78) (.slice (some ⟨b5, o5, none⟩) m c5) (.string (str T1)) rfl rfl (by go_simp) rfl rfl (fun y hy => HV1.out y hy) ?_
          simp only [Act.put, List.setIfInBounds_toArray, List.set_cons_zero, List.set_cons_succ]
          refine og_tk (some 80) (.slice (some ⟨b6, o6, none⟩) M c6) rfl rfl (by go_simp) (fun _ _ => rfl) ?_
          simp only [Act.put, List.setIfInBounds_toArray, List.set_cons_zero, List.set_cons_succ]
          refine og_f rfl (by go_simp) fun K hK => ?_
          go_simp
          refine hK _ _ HS.out ?_
          clear hK K
          refine og_f rfl (by go_simp) fun K hK => ?_
          go_simp
          refine hK _ _ HS.out ?_
          clear hK K
          refine og_f rfl (by go_simp) fun K hK => ?_
          go_simp
          refine hK _ _ HS.out ?_
          clear hK K
          refine og_f rfl (by go_simp) fun K hK => ?_
          go_simp
          refine hK _ _ HS.out ?_
          clear hK K
          refine og_f rfl (by go_simp) fun K hK => ?_
          go_simp
          refine hK _ _ HS.out ?_
          clear hK K
          refine og_done (NoPanic.normal ?_)
          have HOE := Lib.hid (show IsB yC aB M cB H ∧ IsB yC aA N cA F ∧ IsB yC (some ⟨b6, o6, none⟩) M c6 H ∧ IsB yC (some ⟨b5, o5, none⟩) N c5 F from ⟨HOD.out.1.keep (keep_below HS.out), HOD.out.2.1.keep (keep_below HS.out), HOD.out.2.2.1.keep (keep_below HS.out), HOD.out.2.2.2.keep (keep_below HS.out)⟩)
          have HBC := Lib.hid (bl HB.out HS.out)
          clear hv2 hc5 hc6 hm5 hm6 hm0
          cases D with
          | true =>
            obtain rfl := hNM rfl
            clear hNM
            go_wp2_with (go_at_call 15; (with_reducible refine (fixed_walk _ (HG.out.next HBC.out)).mono ?_); rintro e yf ⟨rfl, hb⟩; have HFX := Lib.hid (bl HBC.out hb)
                         have v1 := conv_str (HOE.out.1.keep (keep_below hb)); have v2 := conv_str (HOE.out.2.1.keep (keep_below hb)); have v3 := conv_str (HOE.out.2.2.1.keep (keep_below hb)); have v4 := conv_str (HOE.out.2.2.2.keep (keep_below hb)); clear hb)
            go_ret
            exact ⟨rfl, HFX.out⟩
          | false =>
            clear hNM
            go_wp2_with (go_at_call 15; (with_reducible refine (fixed_walk _ (HG.out.next HBC.out)).mono ?_); rintro e yf ⟨rfl, hb⟩; have HFX := Lib.hid (bl HBC.out hb)
                         have v1 := conv_str (HOE.out.1.keep (keep_below hb)); have v2 := conv_str (HOE.out.2.1.keep (keep_below hb)); have v3 := conv_str (HOE.out.2.2.1.keep (keep_below hb)); have v4 := conv_str (HOE.out.2.2.2.keep (keep_below hb)); clear hb)
            all_goals (go_ret; exact ⟨rfl, HFX.out⟩)
        · have HE := Lib.hid (fun y n c n' c' a a' hB hK => enc_good y l n c n' c' a a' bs k hB hK hE)
          have HE2 := Lib.hid (fun y n c n' c' a a' hB hK => enc_bad y l2 n c n' c' a a' bs2 kz hB hK HGY2.out hE2)
          go_enter Tryd.func6, Tryd.ntmps6
          go_wp2_with (first
            | (go_at_call 16; (with_reducible refine (HGX.out _ H0.out.1).mono ?_); rintro e y1 ⟨rfl, hb⟩; have H1 := Lib.hid (bl H0.out.1 hb); obtain ⟨k0, k1, k2, _, _, _⟩ := H0.out.2.2.keep hb; have HB1 := Lib.hid (H0.out.2.1.keep hb); have HB2 := Lib.hid (H0.out.2.2.keep hb); clear hb HGX)
            | (go_at_call 16; (with_reducible refine (HGY.out _ H1.out).mono ?_); rintro e y2 ⟨rfl, hb⟩; have H2 := Lib.hid (bl H1.out hb); clear k0 k1 k2; obtain ⟨k0, k1, k2, _, _, _⟩ := HB1.out.keep hb; have HC1 := Lib.hid (HB1.out.keep hb); have HC2 := Lib.hid (HB2.out.keep hb); clear hb HGY HB1 HB2)
            | (go_at_call 17; (with_reducible refine (copied_walk _ l n c n' c' a a' bs k (HX.out.1.keep (keep_below H2.out)) (HX.out.2.keep (keep_below H2.out)) (great_tot HGX2.out)).mono ?_); rintro e y3 ⟨⟨a3, n3, c3, a4, n4, c4, rfl, hB3, hK3⟩, hb⟩; have H3 := Lib.hid (bl H2.out hb); have HI3 := Lib.hid (And.intro (hB3.keep (see_keep _ _)) (hK3.keep (see_keep _ _))); have HD2 := Lib.hid (HC2.out.keep hb); clear hb hB3 hK3 k0 k1 k2 HC1 HC2)
            | (go_at_call 13; first
               | ((with_reducible refine (HE.out _ _ _ _ _ _ _ HI3.out.1 HI3.out.2).mono ?_); rintro e y4 ⟨a5, c5, rfl, _, hb⟩; have H4 := Lib.hid (bl H3.out hb); obtain ⟨k0, k1, k2, _, _, _⟩ := HD2.out.keep hb; clear hb HI3 HD2)
               | ((with_reducible refine (HE2.out _ _ _ _ _ _ _ HI5.out.1 HI5.out.2).mono ?_); rintro e y6 ⟨⟨a9, c9, rfl⟩, hb⟩; unfold eN; have H6 := Lib.hid (bl H5.out hb); clear hb HI5))
            | (go_at_call 17; (with_reducible refine (copied_walk _ l2 n2 c2 n2' c2' a2 a2' bs2 kz (HY.out.1.keep (keep_below H4.out)) (HY.out.2.keep (keep_below H4.out)) (great_tot HGY2.out)).mono ?_); rintro e y5 ⟨⟨a7, n7, c7, a8, n8, c8, rfl, hB3, hK3⟩, hb⟩; have H5 := Lib.hid (bl H4.out hb); have HI5 := Lib.hid (And.intro (hB3.keep (see_keep _ _)) (hK3.keep (see_keep _ _)));  clear hb hB3 hK3 k0 k1 k2)
            | (go_at_call 15; (with_reducible refine (fixed_walk _ (HG.out.next H6.out)).mono ?_); rintro e yf ⟨rfl, hb⟩; have HFX := Lib.hid (bl H6.out hb); clear hb))
          go_ret
          exact ⟨rfl, HFX.out⟩
      · have HE := Lib.hid (fun y n c n' c' a a' hB hK => enc_bad y l n c n' c' a a' bs k hB hK HGX2.out hE)
        have HE2 := Lib.hid (fun y n c n' c' a a' hB hK => enc_any y l2 n c n' c' a a' bs2 kz hB hK HGY2.out)
        generalize (if encW l2 bs2 kz = 0 then Value.nilIface else eN (encW l2 bs2 kz)) = er at *
        go_enter Tryd.func6, Tryd.ntmps6
        go_wp2_with (first
          | (go_at_call 16; (with_reducible refine (HGX.out _ H0.out.1).mono ?_); rintro e y1 ⟨rfl, hb⟩; have H1 := Lib.hid (bl H0.out.1 hb); obtain ⟨k0, k1, k2, _, _, _⟩ := H0.out.2.2.keep hb; have HB1 := Lib.hid (H0.out.2.1.keep hb); have HB2 := Lib.hid (H0.out.2.2.keep hb); clear hb HGX)
          | (go_at_call 16; (with_reducible refine (HGY.out _ H1.out).mono ?_); rintro e y2 ⟨rfl, hb⟩; have H2 := Lib.hid (bl H1.out hb); clear k0 k1 k2; obtain ⟨k0, k1, k2, _, _, _⟩ := HB1.out.keep hb; have HC1 := Lib.hid (HB1.out.keep hb); have HC2 := Lib.hid (HB2.out.keep hb); clear hb HGY HB1 HB2)
          | (go_at_call 17; (with_reducible refine (copied_walk _ l n c n' c' a a' bs k (HX.out.1.keep (keep_below H2.out)) (HX.out.2.keep (keep_below H2.out)) (great_tot HGX2.out)).mono ?_); rintro e y3 ⟨⟨a3, n3, c3, a4, n4, c4, rfl, hB3, hK3⟩, hb⟩; have H3 := Lib.hid (bl H2.out hb); have HI3 := Lib.hid (And.intro (hB3.keep (see_keep _ _)) (hK3.keep (see_keep _ _))); have HD2 := Lib.hid (HC2.out.keep hb); clear hb hB3 hK3 k0 k1 k2 HC1 HC2)
          | (go_at_call 13; first
             | ((with_reducible refine (HE.out _ _ _ _ _ _ _ HI3.out.1 HI3.out.2).mono ?_); rintro e y4 ⟨⟨a5, c5, rfl⟩, hb⟩; unfold eN; have H4 := Lib.hid (bl H3.out hb); obtain ⟨k0, k1, k2, _, _, _⟩ := HD2.out.keep hb; clear hb HI3 HD2)
             | ((with_reducible refine (HE2.out _ _ _ _ _ _ _ HI5.out.1 HI5.out.2).mono ?_); rintro e y6 ⟨⟨a9, n9, c9, rfl⟩, hb⟩; have H6 := Lib.hid (bl H5.out hb); clear hb HI5))
          | (go_at_call 17; (with_reducible refine (copied_walk _ l2 n2 c2 n2' c2' a2 a2' bs2 kz (HY.out.1.keep (keep_below H4.out)) (HY.out.2.keep (keep_below H4.out)) (great_tot HGY2.out)).mono ?_); rintro e y5 ⟨⟨a7, n7, c7, a8, n8, c8, rfl, hB3, hK3⟩, hb⟩; have H5 := Lib.hid (bl H4.out hb); have HI5 := Lib.hid (And.intro (hB3.keep (see_keep _ _)) (hK3.keep (see_keep _ _)));  clear hb hB3 hK3 k0 k1 k2)
          | (go_at_call 15; (with_reducible refine (fixed_walk _ (HG.out.next H6.out)).mono ?_); rintro e yf ⟨rfl, hb⟩; have HFX := Lib.hid (bl H6.out hb); clear hb))
        go_ret
        exact ⟨rfl, HFX.out⟩
end Rl
end Go.Proofs.YthlmjcochpodgaaDoor
