/-
  RlpLists. Own work.
-/
import Derived.Test.YthlmjcochpodgaaDoorSa
namespace Go.Proofs.YthlmjcochpodgaaDoor
open Go.ChangeShapes Go.WideShapes Go.Deep Go.RowKit
set_option linter.unusedVariables false
set_option linter.unusedSimpArgs false
namespace Rl
set_option maxRecDepth 100000 in
theorem list_in {H : Type} {enc : TypeId × Value → H} {w : World} {base : Nat} {spare : Nat → Bool} {held : Bool} {r : Reach} {b0 : Nat} {v : Value} {d : DataW H} {p : List MemPlace} (hv : Value.okWide Tryd.prog w r b0 23 v)
    (h : DataW.Trod enc Tryd.prog w base spare held 23 v d p) (hw : ∀ m ∈ d.weights Tryd.prog 23, m ≤ reachBytes) : ∃ a n c k, v = .slice a n c ∧ IsK w a n c k ∧ k.fit := by
  obtain ⟨a0, n0, c0, rfl⟩ := okWide_slice Tryd.underlying23 hv
  obtain ⟨fuel, hf⟩ := h
  have hC : Tryd.prog.cellsOf 25 = 3 := by kernel_rfl
  rcases DataW.trod_slice Tryd.underlying23 hf with ⟨hn, _⟩ | ⟨a', len, cap, elems, rest, m2, hm2, hcs, hx2, _, hle, hcm, helen, hel, _, _⟩
  · simp [Value.cells] at hn
    obtain ⟨rfl, rfl, rfl⟩ := hn
    exact ⟨none, 0, 0, .nil, rfl, ⟨rfl, Nat.le_refl _, by decide, fun _ => rfl, .inl rfl⟩, trivial⟩
  · simp [Value.cells] at hcs
    obtain ⟨rfl, rfl, rfl⟩ := hcs
    have each : ∀ i, i < n0 → ∃ l bs k a n c a2 n2 c2, w.cell? (a'.add (i * 3)) = some (.bool l) ∧ w.cell? (a'.add (i * 3 + 1)) = some (.slice a n c) ∧ w.cell? (a'.add (i * 3 + 2)) = some (.slice a2 n2 c2) ∧ IsB w a n c bs ∧ IsK w a2 n2 c2 k ∧ bs.length ≤ reachBytes ∧ k.fit := by
      intro i hi
      have he := hel i hi
      rw [hC] at he
      have hle2 : i < elems.length := by omega
      rw [List.getElem?_eq_getElem hle2] at he
      cases hcc : w.cells? base (a'.add (i * 3)) 3 with
      | none => rw [hcc] at he; simp at he
      | some cs' =>
        rw [hcc] at he
        simp only [Option.bind_some] at he
        obtain ⟨l, bs, k, a, n, c, a2, n2, c2, e, h3, h4, hfit⟩ := item_fit m2 cs' _ he
        obtain ⟨_, hlen, hat⟩ := World.cells?_some hcc
        subst e
        have q0 := hat 0 (by decide)
        have q1 := hat 1 (by decide)
        have q2 := hat 2 (by decide)
        rw [Go.Deep.add_add] at q0 q1 q2
        have hff := hfit fun m hm => hw m (weights_elem Tryd.underlying23 hx2 hle2 m hm)
        exact ⟨l, bs, k, a, n, c, a2, n2, c2, q0, q1, q2, h3, h4, hff.1, hff.2⟩
    rcases Nat.eq_zero_or_pos n0 with h0 | h0
    · exact ⟨some a', n0, c0, .nil, rfl, ⟨h0, hle, hcm, fun e => (by cases e), .inl h0⟩, trivial⟩
    · obtain ⟨b, o, s⟩ := a'
      have hs : s = none := by
        obtain ⟨_, _, _, _, _, _, _, _, _, q, _⟩ := each 0 h0
        simpa [Addr.add] using World.cell?_spot q
      subst hs
      have build : ∀ m j, j + m = n0 → ∃ k : Fo, k.len = m ∧ IsFo w k b (o + 3 * j) ∧ k.fit := by
        intro m
        induction m with
        | zero => intro j _; exact ⟨.nil, rfl, trivial, trivial⟩
        | succ m ihm =>
          intro j hj
          obtain ⟨r, hr1, hr2, hr3⟩ := ihm (j + 1) (by omega)
          obtain ⟨l, bs, k, a, n, c, a2, n2, c2, q0, q1, q2, h3, h4, hfit⟩ := each j (by omega)
          rw [add_at] at q0 q1 q2
          rw [show o + j * 3 = o + 3 * j from by omega] at q0
          rw [show o + (j * 3 + 1) = o + 3 * j + 1 from by omega] at q1
          rw [show o + (j * 3 + 2) = o + 3 * j + 2 from by omega] at q2
          rw [show o + 3 * (j + 1) = o + 3 * j + 3 from by omega] at hr2
          obtain ⟨g1, g2, g3, g4, g5⟩ := h4
          exact ⟨.cons l bs k r, by show r.len + 1 = m + 1; omega, ⟨q0, ⟨a, n, c, q1, h3⟩, ⟨a2, n2, c2, q2, g1, g2, g3, g4, g5⟩, hr2⟩, ⟨hfit.1, hfit.2, hr3⟩⟩
      obtain ⟨k, hk1, hk2, hk3⟩ := build n0 0 (by omega)
      exact ⟨some ⟨b, o, none⟩, n0, c0, k, rfl, ⟨hk1.symm, hle, hcm, fun e => (by cases e), .inr ⟨b, o, rfl, hk2⟩⟩, hk3⟩
theorem deep_mono : ∀ (k : Fo) (m : Nat), k.deep m = false → k.deep (m + 1) = false
  | .nil, _, _ => rfl
  | .cons l b k r, 0, h => by
    have h : (true || r.deep 0) = false := h
    cases h
  | .cons l b k r, m + 1, h => by
    have h : (k.deep m || r.deep (m + 1)) = false := h
    rw [Bool.or_eq_false_iff] at h
    show (k.deep (m + 1) || r.deep (m + 1 + 1)) = false
    rw [deep_mono k m h.1, deep_mono r (m + 1) h.2]; rfl
theorem deep_drop : ∀ (k : Fo) (j m : Nat), k.deep m = false → (k.drop j).deep m = false
  | k, 0, m, h => by rw [Fo.drop_zero]; exact h
  | .nil, _ + 1, _, _ => rfl
  | .cons l b k r, j + 1, 0, h => by
    have h : (true || r.deep 0) = false := h
    cases h
  | .cons l b k r, j + 1, m + 1, h => deep_drop r j (m + 1) ((Bool.or_eq_false_iff.1 (show (k.deep m || r.deep (m + 1)) = false from h)).2)
/-- Each part of an item that has a form has one. -/
theorem enc_kid {k : Fo} (h : encW true [] k = 0) {j : Nat} {l b k1 r} (hd : k.drop j = .cons l b k1 r) : encW l b k1 = 0 := by
  obtain ⟨h1, h2, h3, h4⟩ := enc_zero.1 h
  have hr := Fo.kid_right h3 hd
  have hdd := deep_drop k j 15 h1
  rw [hd] at hdd
  have hdd : (k1.deep 14 || r.deep 15) = false := hdd
  have hk := deep_mono k1 14 (Bool.or_eq_false_iff.1 hdd).1
  have hlen : (wrap l b k1.form).length ≤ k.form.length := by
    have h5 := Fo.drop_form k j
    rw [hd, Fo.form_cons, List.length_append] at h5; omega
  have hw := wrapB_gt (l := true) (c := k.form) rfl
  rw [wrap_true] at h4
  have e2 : ((if l then b.isEmpty else k1.len == 0) && k1.right) = true := by
    have h6 := Fo.drop_right k j h3
    rw [hd] at h6
    have h7 : ((if l then b.isEmpty else k1.len == 0) && k1.right && r.right) = true := h6
    exact (Bool.and_eq_true_iff.1 h7).1
  exact enc_zero.2 ⟨hk, (Bool.and_eq_true_iff.1 e2).1, (Bool.and_eq_true_iff.1 e2).2, by omega⟩
/-- A list's form in parts. -/
theorem list_form {k : Fo} (h : encW true [] k = 0) : wrap true [] k.form = head 192 k.form.length ++ k.form ∧ (head 192 k.form.length).length ≤ 9 ∧ 1 ≤ (head 192 k.form.length).length ∧ (k.form.length < 56 ↔ (head 192 k.form.length).length = 1) ∧ 192 ≤ at' (wrap true [] k.form) 0 ∧ (wrap true [] k.form).length = (head 192 k.form.length).length + k.form.length := by
  have e : wrap true [] k.form = head 192 k.form.length ++ k.form := rfl
  have hl := head_len 192 k.form.length
  have hb := big_le k.form.length
  have h4 := (enc_zero.1 h).2.2.2
  refine ⟨e, by rw [hl]; split <;> omega, by rw [hl]; split <;> omega, ?_, ?_, by rw [e, List.length_append]⟩
  · rw [hl]
    by_cases h56 : k.form.length < 56
    · simp [h56]
    · have := big_len_pos (n := k.form.length) (by omega)
      rw [if_neg h56]; omega
  · rw [e]
    unfold head at'
    by_cases h56 : k.form.length < 56
    · rw [if_pos h56]
      show 192 ≤ (BitVec.ofNat 8 (192 + k.form.length)).toNat
      rw [BitVec.toNat_ofNat]; omega
    · rw [if_neg h56]
      show 192 ≤ (BitVec.ofNat 8 (192 + 55 + (big k.form.length).length)).toNat
      rw [BitVec.toNat_ofNat]; omega
set_option maxHeartbeats 4000000 in
set_option maxRecDepth 100000 in
theorem rlpLists_walk (w : World) (a' : Option Addr) (n' c' : Nat) (k : Fo) (hK : IsK w a' n' c' k) (hf : k.fit) (hg : Et w) :
    Calls Tryd.prog 5 #[.slice a' n' c'] w fun e w' => e = .returned (.bool true) ∧ Below w.heap.size w w' := by
  have HG := Lib.hid hg
  have HK := Lib.hid hK
  have hnil : ∀ y : World, IsB y none 0 0 [] := fun y => ⟨rfl, Nat.le_refl _, by decide, fun _ => rfl, .inl rfl⟩
  have HNB := Lib.hid hnil
  have HN : Hid (n' ≤ maxLen) := Lib.hid (Nat.le_trans hK.2.1 hK.2.2.1)
  have HGR := Lib.hid (great_here w false 0 0 n' c' none a' [] k (hnil w) hK (by decide) hf)
  clear hK hf hg hnil
  cases hG : great ([] : List Bt).length k with
  | true =>
    rw [hG] at HGR
    clear hG
    go_enter Tryd.func5, Tryd.ntmps5
    go_wp2_with (first
      | (go_at_call 16; (with_reducible refine HGR.out.mono ?_); rintro e y1 ⟨rfl, hb⟩; have H1 := Lib.hid hb; clear hb HGR)
      | (go_at_call 15; (with_reducible refine (fixed_walk _ (HG.out.next H1.out)).mono ?_); rintro e y2 ⟨rfl, hb⟩; have H2 := Lib.hid (bl H1.out hb); clear hb))
    go_ret
    exact ⟨rfl, H2.out⟩
  | false =>
    rw [hG] at HGR
    have HGT := Lib.hid (great_tot hG)
    have HGF := Lib.hid hG
    clear hG
    by_cases hE : encW true [] k = 0
    · have HE := Lib.hid (fun y n c n' c' a a' hB hK => enc_good y true n c n' c' a a' [] k hB hK hE)
      have HEN := Lib.hid hE
      have HF := Lib.hid (And.intro (list_form hE) (And.intro (enc_zero.1 hE).2.2.2 (wrap_pos hE)))
      clear hE
      generalize wrap true [] k.form = F at *
      obtain ⟨N, hN⟩ : ∃ N, F.length = N := ⟨_, rfl⟩
      rw [hN] at HE HF
      have HNN := Lib.hid hN
      clear hN
      go_enter Tryd.func5, Tryd.ntmps5
      go_upto_region 9 with (first
        | (go_at_call 16; (with_reducible refine HGR.out.mono ?_); rintro e y1 ⟨rfl, hb⟩; have H1 := Lib.hid hb; clear hb HGR)
        | (go_at_call 17; (with_reducible refine (copied_walk _ true 0 0 n' c' none a' [] k (HNB.out _) (HK.out.keep (keep_below H1.out)) HGT.out).mono ?_); rintro e y2 ⟨⟨a3, n3, c3, a4, n4, c4, rfl, hB3, hK3⟩, hb⟩; have H2 := Lib.hid (bl H1.out hb); have H3 := Lib.hid (And.intro (hB3.keep (see_keep _ _)) (hK3.keep (see_keep _ _))); clear hb hB3 hK3)
        | (go_at_call 13; (with_reducible refine (HE.out _ _ _ _ _ _ _ H3.out.1 H3.out.2).mono ?_); rintro e y4 ⟨a5, c5, rfl, hO, hb⟩; have H4 := Lib.hid (bl H2.out hb); have H5 := Lib.hid hO.asB; clear hb hO H3))
      go_loopw [5, 6, 27] (fun sz V i y => ∃ (j : Nat) (au : Option Addr) (cu : Nat) (us : List Bt), i = .int .i64 j ∧ V = .slice au us.length cu ∧ sz = .int .i64 us.length ∧ Hid (j ≤ n' ∧ us ++ (k.drop j).form = k.form ∧ Own y y4.heap.size (.slice au us.length cu) us ∧ Below y4.heap.size y4 y)) (fun _ _ i _ => n' - (intOf i).toNat)
      case atStart => exact ⟨0, none, 0, [], rfl, rfl, rfl, Lib.hid ⟨Nat.zero_le _, by rw [Fo.drop_zero]; rfl, Own.nil _ _, Below.refl _ _⟩⟩
      case round =>
        obtain ⟨j, au, cu, us, rfl, rfl, rfl, hp⟩ := hrel
        by_cases hlt : (j : Int) < (n' : Int)
        · have hbw := bl H4.out hp.out.2.2.2
          obtain ⟨b, o, l1, bs1, k1, a1, n1, c1, a2, n2, c2, rfl, hd, hb1, hk1, g0, g1, g2⟩ := (HK.out.keep (keep_below hbw)).at (show j < n' by omega)
          have hz : (us ++ wrap l1 bs1 k1.form) ++ (k.drop (j + 1)).form = k.form := by
            have := hp.out.2.1; rw [hd, Fo.form_cons, ← List.append_assoc] at this; exact this
          have hlen : us.length + (wrap l1 bs1 k1.form).length ≤ k.form.length := by
            have h1 := congrArg List.length hz
            simp only [List.length_append] at h1; omega
          have hkl : k.form.length ≤ 4096 := by have h1 := HF.out.1.2.2.2.2.2; have h2 := HF.out.2.1; omega
          have HC := Lib.hid (copied_walk (wr.alloc (.cells #[.bool l1, .slice a1 n1 c1, .slice a2 n2 c2] 25)) l1 n1 c1 n2 c2 a1 a2 bs1 k1 (hb1.keep (keep_below (ba _ _))) (hk1.keep (keep_below (ba _ _))) (by have h1 := tot_kid hd; have h2 := HGT.out; omega))
          have HEK := Lib.hid (fun y n c n' c' a a' hB hK => enc_good y l1 n c n' c' a a' bs1 k1 hB hK (enc_kid HEN.out hd))
          generalize wrap l1 bs1 k1.form = f at *
          have hw1 : wrap64 ((us.length : Int) + f.length) = ((us ++ f).length : Int) := by rw [List.length_append]; unfold wrap64; omega
          have HZ := Lib.hid (And.intro hz (And.intro hlen hkl))
          have HW1 := Lib.hid hw1
          have HJ := Lib.hid (show j < n' ∧ wrap64 ((j : Int) + 1) = ((j + 1 : Nat) : Int) by
            refine ⟨by omega, ?_⟩
            have := HN.out; simp only [maxLen] at this; unfold wrap64; omega)
          have HO := Lib.hid hp.out.2.2.1
          have HB := Lib.hid hp.out.2.2.2
          clear hd hb1 hk1 hp hz hlen hkl hbw hw1
          go_wp2_with (first
            | (go_at_call 17; (with_reducible refine HC.out.mono ?_); rintro e y6 ⟨⟨a6, n6, c6, a7, n7, c7, rfl, hB6, hK6⟩, hb⟩; have HB6 := Lib.hid (bl HB.out (bl (ba _ _) hb)); have HI6 := Lib.hid (And.intro (hB6.keep (see_keep _ _)) (hK6.keep (see_keep _ _))); have HO6 := Lib.hid (HO.out.below (bl (ba _ _) hb)); clear hb hB6 hK6 HC HO g0 g1 g2 hlt)
            | (go_at_call 13; (with_reducible refine (HEK.out _ _ _ _ _ _ _ HI6.out.1 HI6.out.2).mono ?_); rintro e y8 ⟨a8, c8, rfl, hO, hb⟩; have HB8 := Lib.hid (bl HB6.out hb); have HF8 := Lib.hid hO.asB; have HO8 := Lib.hid (HO6.out.below hb); clear hb hO HI6 HO6)
            | (refine wpList_appB rfl (.tmp 43) (.tmp 44) rfl y4.heap.size (.slice au us.length cu) us rfl HO8.out a8 f.length c8 f rfl HF8.out (by have := HZ.out.2; omega) HB8.out.size ?_
               intro V9 y9 hO hg hat
               have HV9 := Lib.hid (show Own y9 y4.heap.size V9 (us ++ f) ∧ Below y4.heap.size y4 y9 from ⟨hO, HB8.out.grown hg HB8.out.size (fun k hk => (HO8.out.base hk).1)⟩)
               obtain ⟨a9, c9, rfl, _⟩ := HV9.out.1.isB
               clear hO hg hat))
          go_roundw
          case rel => exact ⟨j + 1, a9, c9, us ++ f, by rw [HJ.out.2], by rw [List.length_append], by rw [HW1.out], Lib.hid ⟨HJ.out.1, HZ.out.1, HV9.out.1, HV9.out.2⟩⟩
          case measure => rw [HJ.out.2]; have := HJ.out.1; simp [intOf]; omega
        · have hus : us = k.form := by
            have e := hp.out.2.1
            rw [Fo.drop_end (by have := HK.out.1; omega)] at e
            rw [← e]; exact (List.append_nil us).symm
          subst hus
          have HO := Lib.hid hp.out.2.2.1.asB
          have HB := Lib.hid hp.out.2.2.2
          clear hp
          generalize hkf : k.form = kf at *
          clear hkf
          obtain ⟨L, hL⟩ : ∃ L, kf.length = L := ⟨_, rfl⟩
          rw [hL] at HF HO ⊢
          obtain ⟨hh, hhh⟩ : ∃ x, (head 192 L).length = x := ⟨_, rfl⟩
          rw [hhh] at HF
          have HLL := Lib.hid (And.intro hL hhh)
          clear hL hhh
          obtain ⟨b5, o5, rfl⟩ : ∃ b o, a5 = some ⟨b, o, none⟩ := by
            rcases H5.out.2.2.2.2 with h | ⟨b, o, e, _⟩
            · have := HF.out.2.2; omega
            · exact ⟨b, o, e⟩
          obtain ⟨b0, o0, e0, hcell⟩ := H5.out.cellAt (j := 0) (by have := HF.out.2.2; omega)
          injection e0 with e0
          injection e0 with e1 e2
          subst e1 e2
          have hcell : y4.cell? ⟨b5, o5, none⟩ = some (.int .u8 ((at' F 0 : Nat) : Int)) := hcell
          have hX : (192 : Int) ≤ ((at' F 0 : Nat) : Int) := by have := HF.out.1.2.2.2.2.1; omega
          generalize ((at' F 0 : Nat) : Int) = X at *
          have hNe := HF.out.1.2.2.2.2.2
          have hgt : (L : Int) < (N : Int) := by have := HF.out.1.2.2.1; omega
          have hw : wrap64 ((N : Int) - (L : Int)) = (hh : Int) := by have := HF.out.2.1; unfold wrap64; omega
          have h9 : (hh : Int) ≤ 9 := by have := HF.out.1.2.1; omega
          have hhN : (hh : Int) ≤ (N : Int) := by omega
          have hNc : (N : Int) ≤ (c5 : Int) := by have := H5.out.2.1; omega
          have hh0 : (0 : Int) ≤ (hh : Int) := by omega
          have hN0 : (0 : Int) < (N : Int) := by omega
          have HNe := Lib.hid hNe
          have HCC := Lib.hid hcell
          have h56 := HF.out.1.2.2.2.1
          have HSLC := Lib.hid (show slc F hh (N - hh) = kf by
            rw [HF.out.1.1]
            have e : N - hh = kf.length := by rw [HLL.out.1]; omega
            have e2 : hh = (head 192 L).length := HLL.out.2.symm
            rw [e, e2]; simp [slc])
          clear hcell hNe
          by_cases hc : c5 = hh
          · subst hc
            have hL0 : L = 0 := by have h1 := HNe.out; have h2 := H5.out.2.1; omega
            have hNc5 : N = c5 := by have h1 := HNe.out; omega
            subst hL0
            subst hNc5
            have k1 : ((N : Int) == 1) = true := by have := h56.1 (by omega); simp; omega
            have hNp : 0 < N := by omega
            have hw0 : wrap64 (N : Int) = (N : Int) := by have h2 := HF.out.2.1; unfold wrap64; omega
            clear h56 hw hNc hhN
            go_upto_region 17 with (fail)
            clear hlt
            have s0 : Below wr.heap.size wr wr.drew := (Below.refl _ _).drew
            have NE : Nonempty (Wd (Below wr.heap.size wr)) := ⟨⟨_, s0⟩⟩
            have S0 := Lib.hid s0
            clear s0
            have v1 : ∀ s : Wd (Below wr.heap.size wr), (convert 22 9 (.slice (some ⟨b5, o5, none⟩) 0 0)).run Tryd.prog s.val = .ok (.string (str kf)) s.val := fun s => conv_str (by
              have e : kf = [] := List.eq_nil_of_length_eq_zero HLL.out.1
              subst e
              exact ⟨rfl, Nat.le_refl _, by decide, fun e => (by cases e), .inl rfl⟩)
            have v2 : ∀ s : Wd (Below wr.heap.size wr), (convert 22 9 (.slice au 0 cu)).run Tryd.prog s.val = .ok (.string (str kf)) s.val := fun s => conv_str (HO.out.keep (keep_below s.ok))
            have j0 : ∀ s : Wd (Below wr.heap.size wr), s.val.cell? ⟨b5, o5, none⟩ = some (.int .u8 X) := fun s => keep1 (bl HB.out s.ok) HCC.out
            have Q1 := Lib.hid (fun s : Wd (Below wr.heap.size wr) => in_of_below s (fun y hb => bl s.ok hb) (fixed_walk s.val (HG.out.next (bl H4.out (bl HB.out s.ok)))))
            refine wp_region_in (Below wr.heap.size wr) (by kernel_rfl) (by kernel_rfl) S0.out ?_
            repeat (go_big_quiet_step (with_reducible exact Q1.out _))
            clear v1 v2 j0 Q1
            refine wpQuiet_nil ?_
            rintro y ⟨⟨_, hby⟩, rfl⟩
            go_wp2_with (fail)
            go_ret
            exact ⟨rfl, bl H4.out (bl HB.out hby)⟩
          · by_cases hl : L < 56
            · have k56 : (L : Int) < 56 := by omega
              have k1 : ((hh : Int) == 1) = true := by have := h56.1 hl; simp; omega
              clear h56 hl
              go_upto_region 17 with (fail)
              clear hlt
              have s0 : Below wr.heap.size wr wr.drew := (Below.refl _ _).drew
              have NE : Nonempty (Wd (Below wr.heap.size wr)) := ⟨⟨_, s0⟩⟩
              have S0 := Lib.hid s0
              clear s0
              have v1 : ∀ s : Wd (Below wr.heap.size wr), (convert 22 9 (.slice (some ⟨b5, o5 + hh, none⟩) (N - hh) (c5 - hh))).run Tryd.prog s.val = .ok (.string (str kf)) s.val := fun s => conv_str (by
                have := (H5.out.sub (i := hh) (m := N - hh) (by have := HNe.out; omega)).keep (keep_below (bl HB.out s.ok))
                rw [HSLC.out] at this; exact this)
              have v2 : ∀ s : Wd (Below wr.heap.size wr), (convert 22 9 (.slice au L cu)).run Tryd.prog s.val = .ok (.string (str kf)) s.val := fun s => conv_str (HO.out.keep (keep_below s.ok))
              have j0 : ∀ s : Wd (Below wr.heap.size wr), s.val.cell? ⟨b5, o5, none⟩ = some (.int .u8 X) := fun s => keep1 (bl HB.out s.ok) HCC.out
              have Q1 := Lib.hid (fun s : Wd (Below wr.heap.size wr) => in_of_below s (fun y hb => bl s.ok hb) (fixed_walk s.val (HG.out.next (bl H4.out (bl HB.out s.ok)))))
              refine wp_region_in (Below wr.heap.size wr) (by kernel_rfl) (by kernel_rfl) S0.out ?_
              repeat (go_big_quiet_step (with_reducible exact Q1.out _))
              clear v1 v2 j0 Q1
              refine wpQuiet_nil ?_
              rintro y ⟨⟨_, hby⟩, rfl⟩
              go_wp2_with (fail)
              go_ret
              exact ⟨rfl, bl H4.out (bl HB.out hby)⟩
            · have k56 : decide ((L : Int) < 56) = false := by simp; omega
              have k1 : ((hh : Int) == 1) = false := by
                have : ¬ (hh : Int) = 1 := fun h => hl (h56.2 (by omega))
                simpa using this
              clear h56 hl
              go_upto_region 17 with (fail)
              clear hlt
              have s0 : Below wr.heap.size wr wr.drew := (Below.refl _ _).drew
              have NE : Nonempty (Wd (Below wr.heap.size wr)) := ⟨⟨_, s0⟩⟩
              have S0 := Lib.hid s0
              clear s0
              have v1 : ∀ s : Wd (Below wr.heap.size wr), (convert 22 9 (.slice (some ⟨b5, o5 + hh, none⟩) (N - hh) (c5 - hh))).run Tryd.prog s.val = .ok (.string (str kf)) s.val := fun s => conv_str (by
                have := (H5.out.sub (i := hh) (m := N - hh) (by have := HNe.out; omega)).keep (keep_below (bl HB.out s.ok))
                rw [HSLC.out] at this; exact this)
              have v2 : ∀ s : Wd (Below wr.heap.size wr), (convert 22 9 (.slice au L cu)).run Tryd.prog s.val = .ok (.string (str kf)) s.val := fun s => conv_str (HO.out.keep (keep_below s.ok))
              have j0 : ∀ s : Wd (Below wr.heap.size wr), s.val.cell? ⟨b5, o5, none⟩ = some (.int .u8 X) := fun s => keep1 (bl HB.out s.ok) HCC.out
              have Q1 := Lib.hid (fun s : Wd (Below wr.heap.size wr) => in_of_below s (fun y hb => bl s.ok hb) (fixed_walk s.val (HG.out.next (bl H4.out (bl HB.out s.ok)))))
              refine wp_region_in (Below wr.heap.size wr) (by kernel_rfl) (by kernel_rfl) S0.out ?_
              repeat (go_big_quiet_step (with_reducible exact Q1.out _))
              clear v1 v2 j0 Q1
              refine wpQuiet_nil ?_
              rintro y ⟨⟨_, hby⟩, rfl⟩
              go_wp2_with (fail)
              go_ret
              exact ⟨rfl, bl H4.out (bl HB.out hby)⟩
    · have HE := Lib.hid (fun y n c n' c' a a' hB hK => enc_bad y true n c n' c' a a' [] k hB hK HGF.out hE)
      clear hE
      go_enter Tryd.func5, Tryd.ntmps5
      go_wp2_with (first
        | (go_at_call 16; (with_reducible refine HGR.out.mono ?_); rintro e y1 ⟨rfl, hb⟩; have H1 := Lib.hid hb; clear hb HGR)
        | (go_at_call 17; (with_reducible refine (copied_walk _ true 0 0 n' c' none a' [] k (HNB.out _) (HK.out.keep (keep_below H1.out)) HGT.out).mono ?_); rintro e y2 ⟨⟨a3, n3, c3, a4, n4, c4, rfl, hB3, hK3⟩, hb⟩; have H2 := Lib.hid (bl H1.out hb); have H3 := Lib.hid (And.intro (hB3.keep (see_keep _ _)) (hK3.keep (see_keep _ _))); clear hb hB3 hK3)
        | (go_at_call 13; (with_reducible refine (HE.out _ _ _ _ _ _ _ H3.out.1 H3.out.2).mono ?_); rintro e y4 ⟨⟨a5, c5, rfl⟩, hb⟩; unfold eN; have H4 := Lib.hid (bl H2.out hb); clear hb H3)
        | (go_at_call 15; (with_reducible refine (fixed_walk _ (HG.out.next H4.out)).mono ?_); rintro e y5 ⟨rfl, hb⟩; have H5 := Lib.hid (bl H4.out hb); clear hb))
      go_ret
      exact ⟨rfl, H5.out⟩
end Rl
end Go.Proofs.YthlmjcochpodgaaDoor
