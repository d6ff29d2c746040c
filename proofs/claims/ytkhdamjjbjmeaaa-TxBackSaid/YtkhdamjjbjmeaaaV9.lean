/-
  TxPlaces: any bytes that are a batch. Own work.
-/
import Derived.Test.YtkhdamjjbjmeaaaV8
namespace Go.Proofs.Ytkhdamjjbjmeaaa
open Go.ChangeShapes Go.WideShapes Go.Deep Go.RowKit
set_option linter.unusedVariables false
set_option linter.unusedSimpArgs false
namespace Rl
/-- Unbatch of what is no batch: some error, and nothing else. -/
theorem txUnbatch_no (w : World) (a : Option Addr) (n c : Nat) (bs : List Bt) (hB : IsB w a n c bs) (hno : ∀ G D, unb bs ≠ .ok G D) :
    Calls Try.prog 9 #[.slice a n c] w fun r w' => (∃ t v, r = .returned (.tuple #[.slice none 0 0, .slice none 0 0, .iface t v])) ∧ Below w.heap.size w w' := by
  refine (txUnbatch_walk w a n c bs hB).mono ?_
  rintro r w' ⟨h, hb⟩
  refine ⟨?_, hb⟩
  cases hU : unb bs with
  | flt p k =>
    rw [hU] at h
    obtain ⟨v, h1, q, h2, _⟩ := h
    exact ⟨_, _, by rw [h1, h2]⟩
  | num k =>
    rw [hU] at h
    exact ⟨_, _, h⟩
  | ok G D => exact absurd hU (hno G D)
/-- Unbatch of a batch, as slices. -/
theorem txUnbatch_is (w : World) (a : Option Addr) (n c : Nat) (bs : List Bt) (hB : IsB w a n c bs) (G : List (Nat → Nat)) (D : List Nat) (hU : unb bs = .ok G D) :
    Calls Try.prog 9 #[.slice a n c] w fun r w' => (∃ a1 c1 a2 c2, r = .returned (.tuple #[.slice a1 G.length c1, .slice a2 D.length c2, .nilIface]) ∧ IsT w' a1 G.length c1 G ∧ IsN w' a2 D.length c2 D) ∧ Below w.heap.size w w' := by
  refine (txUnbatch_walk w a n c bs hB).mono ?_
  rintro r w' ⟨h, hb⟩
  refine ⟨?_, hb⟩
  rw [hU] at h
  obtain ⟨V1, V2, h1, h2, h3, _⟩ := h
  obtain ⟨a1, c1, rfl, h4⟩ := h2.isT
  obtain ⟨a2, c2, rfl, h5⟩ := h3.isN
  exact ⟨a1, c1, a2, c2, h1, h4, h5⟩
theorem unb_ok {bs : List Bt} {G : List (Nat → Nat)} {D : List Nat} (h : unb bs = .ok G D) : ∃ k : Fo, k.len ≤ 8 ∧ G = gds k ∧ D = bds 0 k := by
  unfold unb at h
  split at h
  · cases h
  · rename_i l x k j hD
    split at h
    · split at h
      · rename_i h8
        injection h with h1 h2
        exact ⟨k, h8, h1.symm, h2.symm⟩
      · cases h
    · cases h
/-- Encode of what is right. -/
theorem txEncode_good (w : World) (f : Nat → Nat) (hg : TxG f) :
    Calls Try.prog 6 #[txv f] w fun e w' => (∃ a c, e = .returned (.tuple #[.slice a (txB f).length c, .nilIface]) ∧ IsB (see (fun b => w.heap.size ≤ b) w') a (txB f).length c (txB f)) ∧ Below w.heap.size w w' := by
  refine (txEncode_walk w f hg.2).mono ?_
  rintro r w' ⟨V, h1, h2, hb⟩
  rw [if_pos hg.1] at h1 h2
  obtain ⟨a, c, rfl, h3⟩ := h2.isBs
  exact ⟨⟨a, c, h1, h3⟩, hb⟩
/-- Unbatch of right transactions, laid into a batch. -/
theorem txUnbatch_again (w : World) (a : Option Addr) (n c : Nat) (fs : List (Nat → Nat)) (hf : ∀ f ∈ fs, TxG f) (h8 : fs.length ≤ 8) (hB : IsB w a n c (btB (fs.map txB))) :
    Calls Try.prog 9 #[.slice a n c] w fun r w' => (∃ G a1 c1 a2 c2, r = .returned (.tuple #[.slice a1 fs.length c1, .slice a2 0 c2, .nilIface]) ∧ IsT w' a1 fs.length c1 G ∧ G.map t6 = fs.map t6) ∧ Below w.heap.size w w' := by
  have h1 := (bt_small (ls := fs.map txB) (fun x hx => by obtain ⟨f, _, rfl⟩ := List.mem_map.1 hx; exact txB_le f) (by simpa using h8)).2
  obtain ⟨h2, h3⟩ := again_fs fs hf
  refine (txUnbatch_is w a n c _ hB _ _ h1).mono ?_
  rintro r w' ⟨⟨a1, c1, a2, c2, h4, h5, h6⟩, hb⟩
  have hl : (gds (txts (fs.map txB))).length = fs.length := by have := congrArg List.length h2; simpa using this
  rw [hl] at h4 h5
  rw [h3 0] at h4
  exact ⟨⟨_, a1, c1, a2, c2, h4, h5, h2⟩, hb⟩
/-- Batch of their bytes. -/
theorem txBatch_good (w : World) (a : Option Addr) (n c : Nat) (fs : List (Nat → Nat)) (h8 : fs.length ≤ 8) (hL : IsBB w a n c (fs.map txB)) :
    Calls Try.prog 11 #[.slice a n c] w fun e w' => (∃ a c, e = .returned (.tuple #[.slice a (btB (fs.map txB)).length c, .nilIface]) ∧ IsB w' a (btB (fs.map txB)).length c (btB (fs.map txB))) ∧ Below w.heap.size w w' := by
  have hx : ∀ x ∈ fs.map txB, x.length ≤ 120 := fun x hx => by obtain ⟨f, _, rfl⟩ := List.mem_map.1 hx; exact txB_le f
  have h1 := (bt_small (ls := fs.map txB) hx (by simpa using h8)).1
  have h2 := sum_le hx
  refine (txBatch_walk w a n c _ hL (fun _ => by simp at h2; omega)).mono ?_
  rintro r w' ⟨V, h3, h4, hb⟩
  rw [if_pos h1] at h3 h4
  obtain ⟨a, c, rfl, h5⟩ := h4.isB
  exact ⟨⟨a, c, h3, h5⟩, hb⟩
theorem IsN.at {w : World} {a : Option Addr} {n c : Nat} {D : List Nat} (h : IsN w a n c D) {j : Nat} (hj : j < n) : ∃ (b o d : Nat), a = some ⟨b, o, none⟩ ∧ D[j]? = some d ∧ w.cell? ⟨b, o + j, none⟩ = some (.int .i64 d) := by
  rcases h.2.2.2.2 with h0 | ⟨b, o, e, h6⟩
  · omega
  · have hl := h.1
    have e2 : D[j]? = some (D[j]'(by omega)) := List.getElem?_eq_getElem (by omega)
    exact ⟨b, o, _, e, e2, h6 j _ e2⟩
/-- What the loop over the transactions keeps. -/
structure Tpl (yU : World) (V : Value) (ls : List (List Bt)) (y : World) : Prop where
  below : Below yU.heap.size yU y
  row : RowS y yU.heap.size (fun _ => False) V ls
theorem Tpl.next {yU y y' : World} {V : Value} {ls : List (List Bt)} (h : Tpl yU V ls y) (hb : Below y.heap.size y y') : Tpl yU V ls y' := ⟨bl h.below hb, h.row.next hb⟩
theorem Tpl.put {yU y y' : World} {V V' : Value} {ls ls' : List (List Bt)} (h : Tpl yU V ls y) (hg : y.grownBy y' V.ownBlock) (hr : RowS y' yU.heap.size (fun _ => False) V' ls') : Tpl yU V' ls' y' :=
  ⟨h.below.grown hg h.below.size (fun k hk => (h.row.base hk).1), hr⟩
theorem tx_wrap {j N : Nat} (h : j < N) (hN : N ≤ 1073741824) : wrap64 ((j : Int) + 1) = ((j + 1 : Nat) : Int) := by unfold wrap64; omega
set_option maxHeartbeats 2000000 in
set_option maxRecDepth 100000 in
theorem txPlaces_walk (w : World) (a : Option Addr) (n c : Nat) (bs : List Bt) (hB : IsB w a n c bs) (hm : n ≤ reachBytes) :
    Calls Try.prog 4 #[.slice a n c] w fun e w' => e = .returned (.bool true) ∧ Below w.heap.size w w' := by
  have HBB := Lib.hid hB
  have HO0 := Lib.hid (own_none w w.heap.size (Nat.le_refl _))
  have HB0 := Lib.hid (ba w (.cells #[] 5))
  have HM := Lib.hid (show ([] : List Bt).length + bs.length ≤ 140737488355328 by have := hB.1; simp only [reachBytes] at hm; simp; omega)
  clear hB hm
  by_cases hU : ∃ G D, unb bs = .ok G D
  · obtain ⟨G, D, hU⟩ := hU
    have HU := Lib.hid (fun y a n c h => txUnbatch_is y a n c bs h G D hU)
    obtain ⟨k, h8, rfl, rfl⟩ := unb_ok hU
    have HG := Lib.hid (gds_good k)
    have HDi := Lib.hid (fun p => bds_in k 0 p)
    have HDs := Lib.hid (bds_sorted k 0)
    have hlen := both_len k 0
    clear hU
    generalize gds k = G at *
    generalize bds 0 k = D at *
    obtain ⟨M, hM⟩ : ∃ M, k.len = M := ⟨_, rfl⟩
    rw [hM] at hlen h8 HDi
    clear hM k
    obtain ⟨NG, hNG⟩ : ∃ N, G.length = N := ⟨_, rfl⟩
    obtain ⟨ND, hND⟩ : ∃ N, D.length = N := ⟨_, rfl⟩
    rw [hNG, hND] at hlen HU
    have HL := Lib.hid (show G.length = NG ∧ D.length = ND ∧ NG + ND = M ∧ M ≤ 8 from ⟨hNG, hND, hlen, h8⟩)
    have hs1 : wrap64 ((NG : Int) + (ND : Int)) = (M : Int) := by unfold wrap64; omega
    have hs2 : decide ((8 : Int) < (M : Int)) = false := by simp; omega
    clear hlen h8 hNG hND
    go_enter Try.func4, Try.ntmps4
    go_wp2_with (first
      | (refine wpList_appW rfl (.tmp 18) (.tmp 19) rfl w.heap.size _ [] rfl HO0.out a n c bs rfl (HBB.out.keep (keep_below HB0.out)) HM.out HB0.out.size ?_
         intro V1 y1 hO1 hg1 hat1
         rw [List.nil_append] at hO1
         obtain ⟨a1, c1, rfl, hB1⟩ := hO1.isB
         have H1 := Lib.hid (HB0.out.grown hg1 HB0.out.size (fun k hk => by cases hk; exact Nat.le_refl _))
         have HB1 := Lib.hid hB1
         clear hO1 hg1 hat1 hB1)
      | (go_at_call 9; (with_reducible refine (HU.out _ _ _ _ HB1.out).mono ?_); rintro e y2 ⟨⟨a2, c2, a3, c3, rfl, hT, hN⟩, hb⟩
         have H2 := Lib.hid (bl H1.out hb)
         have HT := Lib.hid hT
         have HN := Lib.hid hN
         clear hb hT hN HU HB1))
    clear hs2
    go_loopw [46] (fun i y => ∃ j : Nat, i = .int .i64 j ∧ Hid (j ≤ ND ∧ y = y2)) (fun i _ => ND - (intOf i).toNat)
    case atStart => exact ⟨0, rfl, Lib.hid ⟨Nat.zero_le _, rfl⟩⟩
    case round =>
      obtain ⟨j, rfl, hp⟩ := hrel
      obtain ⟨hp, hw⟩ := hp.out
      have hw' := hw.symm
      subst hw'
      have HP := Lib.hid hp
      clear hp
      by_cases hlt : (j : Int) < ND
      · obtain ⟨b, o, d, rfl, hd, hcd⟩ := HN.out.at (show j < ND by omega)
        have hd1 := HDi.out d (List.mem_of_getElem? hd)
        have d1 : decide ((d : Int) < 0) = false := by simp
        have d2 : d < M := by omega
        have HJ := Lib.hid (And.intro (show j < ND by omega) (tx_wrap (j := j) (N := ND) (by omega) (by have := HL.out; omega)))
        clear hd1
        by_cases hj : j = 0
        · subst hj
          clear hd hlt
          have hlt : (0 : Int) < ND := by have := HJ.out.1; omega
          have hlt2 : 0 < ND := HJ.out.1
          rw [Nat.add_zero] at hcd
          go_wp2_with (fail)
          try rw [HJ.out.2]
          go_roundw
          case rel => exact ⟨_, _, _, _, ⟨1, rfl, Lib.hid HJ.out.1⟩, rfl, rfl, rfl, rfl⟩
          case measure => have := HJ.out.1; show ND - 1 < ND - 0; omega
        · obtain ⟨i, hi⟩ : ∃ i, i + 1 = j := ⟨j - 1, by omega⟩
          obtain ⟨b', o', d', e', hd', hcd'⟩ := HN.out.at (show i < ND by omega)
          injection e' with e'
          injection e' with e1 e2
          subst e1 e2
          have j0 : (0 : Int) < j := by omega
          have j1 : wrap64 ((j : Int) - 1) = (i : Int) := by have := HL.out; unfold wrap64; omega
          have j2 : i < ND := by omega
          have j3 : d' < d := by
            have h3 : d' < d := by
              have h4 := List.pairwise_iff_getElem.1 HDs.out i j (by have := HL.out; omega) (by have := HL.out; omega) (by omega)
              rw [(List.getElem_eq_iff _).2 hd, (List.getElem_eq_iff _).2 hd'] at h4
              exact h4
            exact h3
          clear hd hd' hi hj
          go_wp2_with (fail)
          try rw [HJ.out.2]
          go_roundw
          case rel => exact ⟨_, _, _, _, ⟨j + 1, rfl, Lib.hid HJ.out.1⟩, rfl, rfl, rfl, rfl⟩
          case measure => have := HJ.out.1; show ND - (j + 1) < ND - j; omega
      · clear HP
        go_wp2_with (fail)
        have HT0 : Hid (Tpl y2 (.slice none 0 0) [] y2) := Lib.hid ⟨Below.refl _ _, RowS.nil _ _ _⟩
        have HQ := Lib.hid hs1
        clear hs1 hlt
        go_loopw [8, 78] (fun V i y => ∃ j : Nat, i = .int .i64 j ∧ Hid (j ≤ NG ∧ Tpl y2 V ((G.take j).map txB) y)) (fun _ i _ => NG - (intOf i).toNat)
        case atStart => exact ⟨0, rfl, Lib.hid ⟨Nat.zero_le _, HT0.out⟩⟩
        case round =>
          obtain ⟨j, rfl, hp⟩ := hrel
          have HP := Lib.hid hp.out
          clear hp HT0
          by_cases hlt : (j : Int) < NG
          · obtain ⟨b, o, f, rfl, hf, G0, G1, G2, G3, G4, G5⟩ := (HT.out.keep (keep_below HP.out.2.below)).at (show j < NG by omega)
            have HF := Lib.hid (HG.out f (List.mem_of_getElem? hf))
            have HFr : Hid (txOk f = true) := Lib.hid HF.out.1
            have HE := Lib.hid (show (G.take (j + 1)).map txB = (G.take j).map txB ++ [txB f] by
              rw [List.take_add_one, hf, List.map_append]; rfl)
            have HJ := Lib.hid (And.intro (show j < NG by omega) (And.intro (tx_wrap (j := j) (N := NG) (by omega) (by have := HL.out; omega)) (show ((G.take j).map txB).length ≤ 8 by rw [List.length_map, List.length_take]; have := HL.out; omega)))
            generalize (G.take j).map txB = ls at *
            have hba := ba wr (txo f)
            have C0 := Lib.hid (txo_at wr f)
            have HP0 := Lib.hid (HP.out.2.next hba)
            have z0 := C0.out 0 (by decide)
            have z1 := C0.out 1 (by decide)
            have z2 := C0.out 2 (by decide)
            have z3 := C0.out 3 (by decide)
            have z4 := C0.out 4 (by decide)
            have z5 := C0.out 5 (by decide)
            clear hba hf
            go_wp2_with (first
              | (go_at_call 10; (with_reducible refine (right4_walk _ f HFr.out).mono ?_); rintro e y3 ⟨rfl, hb⟩
                 have HP3 := Lib.hid (HP0.out.next hb)
                 clear z0 z1 z2 z3 z4 z5
                 have z0 := keep1 hb (C0.out 0 (by decide))
                 have z1 := keep1 hb (C0.out 1 (by decide))
                 have z2 := keep1 hb (C0.out 2 (by decide))
                 have z3 := keep1 hb (C0.out 3 (by decide))
                 have z4 := keep1 hb (C0.out 4 (by decide))
                 have z5 := keep1 hb (C0.out 5 (by decide))
                 clear hb)
              | (go_at_call 6; (with_reducible refine (txEncode_good _ f HF.out).mono ?_); rintro e y4 ⟨⟨a5, c5, rfl, hB5⟩, hb⟩
                 have hba := ba y4 (.cells #[.slice a5 (txB f).length c5] 25)
                 have HP4 := Lib.hid ((HP3.out.next hb).next hba)
                 have HB5 := Lib.hid (show IsB (see (Away u8 (fun _ => False)) (y4.alloc (.cells #[.slice a5 (txB f).length c5] 25))) a5 (txB f).length c5 (txB f) from
                   hB5.keep (keep_see fun b o v g1 g2 => ⟨⟨fun e => by have := (HP3.out.row.base e).2; omega, id⟩, keep1 hba g2⟩))
                 clear hb hba hB5)
              | (refine wpList_appS rfl (.tmp 92) (.tmp 94) rfl y2.heap.size (fun _ => False) u8 ls rfl HP4.out.row HP4.out.below.size ⟨y4.heap.size, 0, none⟩ 1 (txB f) a5 (txB f).length c5 rfl (by rw [add_at]; simp) HB5.out (by have := HJ.out.2.2; omega) (fun k hk => hk.elim) ?_
                 intro V5 y5 hr hg hat
                 have HP5 := Lib.hid (HP4.out.put hg hr)
                 clear hr hg hat))
            try rw [HJ.out.2.1]
            go_roundw
            case rel => exact ⟨j + 1, rfl, Lib.hid ⟨HJ.out.1, by rw [HE.out]; exact HP5.out⟩⟩
            case measure => have := HJ.out.1; show NG - (j + 1) < NG - j; omega
          · have hj : j = NG := by have := HP.out.1; omega
            have HP1 := Lib.hid (show Tpl y2 u8 (G.map txB) wr by have := HP.out.2; rwa [List.take_of_length_le (by have := HL.out.1; omega)] at this)
            obtain ⟨a6, c6, rfl, hbb⟩ := HP1.out.row.isBB
            rw [show (G.map txB).length = NG by rw [List.length_map]; exact HL.out.1] at hbb ⊢
            have HBT := Lib.hid (txBatch_good wr a6 NG c6 G (by have := HL.out; omega) hbb)
            have HUA := Lib.hid (fun y a n c h => txUnbatch_again y a n c G HG.out (by have := HL.out; omega) h)
            rw [HL.out.1] at HUA
            have HT6 := Lib.hid (HT.out.keep (keep_below HP1.out.below))
            have H6 := Lib.hid (bl H2.out HP1.out.below)
            clear HP hbb
            go_wp2_with (first
              | (go_at_call 11; (with_reducible refine HBT.out.mono ?_); rintro e y7 ⟨⟨a7, c7, rfl, hB7⟩, hb⟩
                 have H7 := Lib.hid (bl H6.out hb)
                 have HT7 := Lib.hid (HT6.out.keep (keep_below hb))
                 have HB7 := Lib.hid hB7
                 clear hb hB7 HBT)
              | (go_at_call 9; (with_reducible refine (HUA.out _ _ _ _ HB7.out).mono ?_); rintro e y8 ⟨⟨G8, a8, c8, a9, c9, rfl, hT8, hE8⟩, hb⟩
                 have H8 := Lib.hid (bl H7.out hb)
                 have HT8 := Lib.hid (And.intro hT8 (And.intro hE8 (HT7.out.keep (keep_below hb))))
                 clear hb hT8 hE8 HUA HB7)
              | (go_at_call 8; (with_reducible refine (fixed4_walk _).mono ?_); rintro e y9 ⟨rfl, hb⟩
                 have H9 := Lib.hid (bl H8.out hb)
                 have HT9 := Lib.hid (And.intro (HT8.out.1.keep (keep_below hb)) (And.intro HT8.out.2.1 (HT8.out.2.2.keep (keep_below hb))))
                 clear hb)
              | (go_at_call 12; (with_reducible refine (same4_walk _ _ _ _ _ _ _ G8 G HT9.out.1 HT9.out.2.2 HT9.out.2.1 (by have := HL.out; omega)).mono ?_); rintro e y10 ⟨rfl, hb⟩
                 have H10 := Lib.hid (bl H9.out hb)
                 clear hb))
            go_ret
            exact ⟨rfl, H10.out⟩
  · have HU := Lib.hid (fun y a n c h => txUnbatch_no y a n c bs h (fun G D e => hU ⟨G, D, e⟩))
    clear hU
    go_enter Try.func4, Try.ntmps4
    go_wp2_with (first
      | (refine wpList_appW rfl (.tmp 18) (.tmp 19) rfl w.heap.size _ [] rfl HO0.out a n c bs rfl (HBB.out.keep (keep_below HB0.out)) HM.out HB0.out.size ?_
         intro V1 y1 hO1 hg1 hat1
         rw [List.nil_append] at hO1
         obtain ⟨a1, c1, rfl, hB1⟩ := hO1.isB
         have H1 := Lib.hid (HB0.out.grown hg1 HB0.out.size (fun k hk => by cases hk; exact Nat.le_refl _))
         have HB1 := Lib.hid hB1
         clear hO1 hg1 hat1 hB1)
      | (go_at_call 9; (with_reducible refine (HU.out _ _ _ _ HB1.out).mono ?_); rintro e y2 ⟨⟨t, v, rfl⟩, hb⟩
         have H2 := Lib.hid (bl H1.out hb)
         clear hb HU HB1)
      | (go_at_call 8; (with_reducible refine (fixed4_walk _).mono ?_); rintro e y3 ⟨rfl, hb⟩; have H3 := Lib.hid (bl H2.out hb); clear hb))
    go_ret
    exact ⟨rfl, H3.out⟩
end Rl
end Go.Proofs.Ytkhdamjjbjmeaaa
