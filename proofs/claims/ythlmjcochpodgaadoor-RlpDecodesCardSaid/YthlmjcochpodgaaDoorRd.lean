/-
  rlp: form. Own work.
-/
import Derived.Test.YthlmjcochpodgaaDoorRc
namespace Go.Proofs.YthlmjcochpodgaaDoor
open Go.ChangeShapes Go.WideShapes Go.Deep Go.RowKit
set_option linter.unusedVariables false
set_option linter.unusedSimpArgs false
namespace Rl
/-- A row that grows, beside a box of the call's own. -/
structure Fm (W : World) (q : Nat) (c0 c1 c2 : Value) (V : Value) (xs : List Bt) (w : World) : Prop where
  own : Own w W.heap.size V xs
  below : Below W.heap.size W w
  ge : W.heap.size ≤ q
  ne : V.ownBlock ≠ some q
  lt : q < w.heap.size
  k0 : w.cell? ⟨q, 0, none⟩ = some c0
  k1 : w.cell? ⟨q, 1, none⟩ = some c1
  k2 : w.cell? ⟨q, 2, none⟩ = some c2
theorem Fm.next {W : World} {q : Nat} {c0 c1 c2 V : Value} {xs : List Bt} {w w' : World} (h : Fm W q c0 c1 c2 V xs w) (hb : Below w.heap.size w w') : Fm W q c0 c1 c2 V xs w' :=
  ⟨h.own.below hb, bl h.below hb, h.ge, h.ne, Nat.lt_of_lt_of_le h.lt hb.size, keep1 hb h.k0, keep1 hb h.k1, keep1 hb h.k2⟩
theorem Fm.grow {W : World} {q : Nat} {c0 c1 c2 V V' : Value} {xs ys : List Bt} {w w' : World} (h : Fm W q c0 c1 c2 V xs w) (ho : Own w' W.heap.size V' ys) (hg : w.grownBy w' V.ownBlock) (hat : ∀ k, V'.ownBlock = some k → V.ownBlock = some k ∨ k = w.heap.size) : Fm W q c0 c1 c2 V' ys w' :=
  ⟨ho, h.below.grown hg h.below.size (fun k hk => (h.own.base hk).1), h.ge, fun e => (by rcases hat q e with h1 | h1; exact h.ne h1; have := h.lt; omega), Nat.lt_of_lt_of_le h.lt hg.size,
    hg.cell h.k0 (fun e => h.ne e.symm), hg.cell h.k1 (fun e => h.ne e.symm), hg.cell h.k2 (fun e => h.ne e.symm)⟩
set_option maxHeartbeats 2000000 in
set_option maxRecDepth 100000 in
theorem form_one (W w : World) (V : Value) (xs : List Bt) (c n' c' b o : Nat) (a' : Option Addr) (x : Bt) (hx : x.toNat < 128) (hb : Below W.heap.size W w) (ho : Own w W.heap.size V xs) (hl : xs.length + 1 ≤ 1048576) (hcell : W.cell? ⟨b, o, none⟩ = some (bvb x)) :
    Calls Tryd.prog 30 #[V, .agg #[.bool false, .slice (some ⟨b, o, none⟩) 1 c, .slice a' n' c']] w fun e w' => ∃ V', e = .returned V' ∧ Own w' W.heap.size V' (xs ++ [x]) ∧ Below W.heap.size W w' := by
  have HS := Lib.hid (single_one (w.alloc (.cells #[.bool false, .slice (some ⟨b, o, none⟩) 1 c, .slice a' n' c'] 25)) c n' c' b o a' x (keep_below (hb.alloc hb.size _) _ _ hcell))
  have HF : Hid (Fm W w.heap.size (.bool false) (.slice (some ⟨b, o, none⟩) 1 c) (.slice a' n' c') V xs (w.alloc (.cells #[.bool false, .slice (some ⟨b, o, none⟩) 1 c, .slice a' n' c'] 25))) :=
    Lib.hid ⟨ho.below ((Below.refl _ _).alloc (Nat.le_refl _) _), hb.alloc hb.size _, hb.size, fun e => by have := (ho.base e).2; omega, by simp, by simp, by simp, by simp⟩
  have HL := Lib.hid hl
  have HX := Lib.hid hcell
  rw [decide_eq_true hx] at HS
  clear hb ho hl hcell hx
  go_enter Tryd.func30, Tryd.ntmps30
  go_wp2_with (first
    | (go_at_call 42; (with_reducible refine HS.out.mono ?_); rintro e y1 ⟨rfl, hb⟩; have HF := Lib.hid (HF.out.next hb); have g1 := HF.out.k1; have gx := keep_below HF.out.below _ _ HX.out; unfold bvb at gx; clear hb HS)
    | (refine wpList_appB rfl (.tmp 13) (.tmp 18) rfl W.heap.size V xs rfl (HF.out.next ((Below.refl _ _).alloc (Nat.le_refl _) _)).own (some ⟨y1.heap.size, 0, none⟩) 1 1 [x] rfl (isB_one _ _ rfl) (Nat.le_trans HL.out (by decide)) (by have := HF.out.below.size; simp; omega) ?_
       intro V2 y2 hO2 hg hat
       have HF2 := Lib.hid ((HF.out.next ((Below.refl _ _).alloc (Nat.le_refl _) _)).grow hO2 hg hat)
       clear hO2 hg hat))
  go_ret
  exact ⟨V2, rfl, HF2.out.own, HF2.out.below⟩
theorem bvb_of (z : Int) (m : Nat) (h : z = (m : Int)) (hm : m < 256) : Value.int .u8 z = bvb (BitVec.ofNat 8 m) := by
  subst h; unfold bvb; rw [BitVec.toNat_ofNat, Nat.mod_eq_of_lt (by simpa using hm)]
theorem isB_grown {W w w1 w2 : World} {q : Nat} {c0 c1 c2 V : Value} {xs bs : List Bt} {a : Option Addr} {n c : Nat} (hf : Fm W q c0 c1 c2 V xs w) (h : IsB w a n c bs) (hb : Below w.heap.size w w1) (hg : w1.grownBy w2 V.ownBlock)
    (hne : ∀ x, a = some x → V.ownBlock ≠ some x.block) : IsB w2 a n c bs := by
  obtain ⟨h1, h2, h3, h4, h5⟩ := h
  refine ⟨h1, h2, h3, h4, h5.imp id ?_⟩
  rintro ⟨b, o, e, h6⟩
  exact ⟨b, o, e, fun i x hx => hg.cell (keep_below hb _ _ (h6 i x hx)) (fun e2 => hne _ e e2.symm)⟩
set_option maxHeartbeats 8000000 in
set_option maxRecDepth 100000 in
theorem form_many (W w : World) (V : Value) (xs : List Bt) (l : Bool) (n c n' c' : Nat) (a a' : Option Addr) (bs : List Bt) (k : Fo) (hs : single l bs = false) (hr : whole l bs.length k = true) (hB : IsB W a n c bs) (hK : IsK W a' n' c' k)
    (hb : Below W.heap.size W w) (ho : Own w W.heap.size V xs) (hl : (xs ++ wrap l bs k.form).length ≤ 1048576)
    (ih : ∀ (w : World) (V : Value) (xs : List Bt) (l : Bool) (n c n' c' : Nat) (a a' : Option Addr) (bs : List Bt) (k1 : Fo), k1.size < k.size → whole l bs.length k1 = true → IsB W a n c bs → IsK W a' n' c' k1 → Below W.heap.size W w → Own w W.heap.size V xs →
      (xs ++ wrap l bs k1.form).length ≤ 1048576 → Calls Tryd.prog 30 #[V, .agg #[.bool l, .slice a n c, .slice a' n' c']] w fun e w' => ∃ V', e = .returned V' ∧ Own w' W.heap.size V' (xs ++ wrap l bs k1.form) ∧ Below W.heap.size W w') :
    Calls Tryd.prog 30 #[V, .agg #[.bool l, .slice a n c, .slice a' n' c']] w fun e w' => ∃ V', e = .returned V' ∧ Own w' W.heap.size V' (xs ++ wrap l bs k.form) ∧ Below W.heap.size W w' := by
  have HF0 : Hid (Fm W w.heap.size (.bool l) (.slice a n c) (.slice a' n' c') V xs (w.alloc (.cells #[.bool l, .slice a n c, .slice a' n' c'] 25))) :=
    Lib.hid ⟨ho.below ((Below.refl _ _).alloc (Nat.le_refl _) _), hb.alloc hb.size _, hb.size, fun e => by have := (ho.base e).2; omega, by simp, by simp, by simp, by simp⟩
  have HWR : Hid (wrap l bs k.form = head (sh l) (bs.length + k.form.length) ++ (bs ++ k.form)) := Lib.hid (by unfold wrap; rw [hs, List.length_append]; rfl)
  generalize hq : bs.length + k.form.length = q at *
  have HQ : Hid (q ≤ 1048576 ∧ xs.length + (head (sh l) q).length + q ≤ 1048576) := Lib.hid (by
    rw [HWR.out] at hl; simp only [List.length_append] at hl; omega)
  have HSI : Hid (Calls Tryd.prog 42 #[.agg #[.bool l, .slice a n c, .slice a' n' c']] (w.alloc (.cells #[.bool l, .slice a n c, .slice a' n' c'] 25)) fun e w' => e = .returned (.bool false) ∧ Below (w.alloc (.cells #[.bool l, .slice a n c, .slice a' n' c'] 25)).heap.size (w.alloc (.cells #[.bool l, .slice a n c, .slice a' n' c'] 25)) w') := Lib.hid (by
    have := single_walk (w.alloc (.cells #[.bool l, .slice a n c, .slice a' n' c'] 25)) l n c n' c' a a' bs (hB.keep (keep_below HF0.out.below))
    rw [hs] at this; exact this)
  have HCO : Hid (∀ y, Below W.heap.size W y → Calls Tryd.prog 41 #[.agg #[.bool l, .slice a n c, .slice a' n' c']] y fun e w' => e = .returned (.int .i64 q) ∧ Below y.heap.size y w') := Lib.hid (fun y hy => by
    have := content_step y l n c n' c' a a' bs k (hB.keep (keep_below hy)) (hK.keep (keep_below hy)) (by have := HQ.out.1; unfold B30; omega) (whole_kids hr) fun w l n c n' c' a a' bs k1 h1 h2 h3 h4 h5 => size_walk w l n c n' c' a a' bs k1 h3 h4 h5 h2
    rw [hq] at this; exact this)
  have HI := Lib.hid ih
  have HR := Lib.hid (whole_kids hr)
  have HBB := Lib.hid hB
  have HK := Lib.hid hK
  have HW : Hid (IntKind.u64.wrap (q : Int) = (q : Int)) := Lib.hid (by have := HQ.out; show (q : Int) % 18446744073709551616 = q; omega)
  have HN : Hid (n' ≤ maxLen) := Lib.hid (Nat.le_trans hK.2.1 hK.2.2.1)
  have HQQ := Lib.hid hq
  have HLL := Lib.hid hl
  clear hs hr hB hK hb ho hl ih hq
  by_cases h56 : (q : Int) < 56
  · cases l with
    | false =>
      have HHD : Hid (head (sh false) q = [BitVec.ofNat 8 (128 + q)]) := Lib.hid (by unfold head; rw [if_pos (by omega)]; rfl)
      go_enter Tryd.func30, Tryd.ntmps30
      go_upto_region 13 with (first
        | (go_at_call 42; (with_reducible refine HSI.out.mono ?_); rintro e y1 ⟨rfl, hb⟩; have HF1 := Lib.hid (HF0.out.next hb); have g0 := HF1.out.k0; have g1 := HF1.out.k1; have g2 := HF1.out.k2; clear hb HSI)
        | (go_at_call 41; (with_reducible refine (HCO.out _ HF1.out.below).mono ?_); rintro e y2 ⟨rfl, hb⟩; clear g0 g1 g2; have HF2 := Lib.hid (HF1.out.next hb); have g1 := HF2.out.k1; have g2 := HF2.out.k2; clear hb HCO HF1)
        | (refine wpList_appB rfl (.tmp 26) (.tmp 31) rfl W.heap.size V xs rfl (HF2.out.next ((Below.refl _ _).alloc (Nat.le_refl _) _)).own (some ⟨y2.heap.size, 0, none⟩) 1 1 [BitVec.ofNat 8 (128 + q)] rfl (isB_one _ _ (bvb_of _ _ (by first | rfl | omega) (by omega))) (by have := HQ.out; rw [HHD.out] at this; simp at this ⊢; omega) (by have := HF2.out.below.size; simp; omega) ?_
           intro Vh yh hO hg hat
           have HFh := Lib.hid ((HF2.out.next ((Below.refl _ _).alloc (Nat.le_refl _) _)).grow hO hg hat)
           rw [← HHD.out] at HFh
           clear hO hg hat g1 g2 HF2
           have g1 := HFh.out.k1
           have g2 := HFh.out.k2)
        | (refine wpList_appB rfl (.tmp 47) (.tmp 49) rfl W.heap.size Vh (xs ++ head (sh false) q) rfl HFh.out.own a n c bs rfl (HBB.out.keep (keep_below HFh.out.below)) (by have := HQ.out; have := HQQ.out; simp; omega) HFh.out.below.size ?_
           intro Vb yb hO hg hat
           have HFb := Lib.hid (HFh.out.grow hO hg hat)
           clear hO hg hat g1 g2 HFh
           have g1 := HFb.out.k1
           have g2 := HFb.out.k2))
      clear g1
      go_wp2_with (fail)
      clear g2
      go_loopw [0, 54] (fun t i y => ∃ (j : Nat) (U : Value) (us : List Bt), j ≤ n' ∧ i = .int .i64 j ∧ t = U ∧ Hid (us ++ (k.drop j).form = xs ++ wrap false bs k.form ∧ Own y W.heap.size U us ∧ Below W.heap.size W y)) (fun _ i _ => n' - (intOf i).toNat)
      case atStart => exact ⟨0, Vb, _, Nat.zero_le _, rfl, rfl, Lib.hid ⟨by rw [Fo.drop_zero, HWR.out]; simp only [List.append_assoc], HFb.out.own, HFb.out.below⟩⟩
      case round =>
        obtain ⟨j, U, us, hj, rfl, rfl, hp⟩ := hrel
        clear HFb
        by_cases hlt : (j : Int) < (n' : Int)
        · obtain ⟨b, o, l1, bs1, k1, a1, n1, c1, a2, n2, c2, rfl, hd, hb1, hk1, G0, G1, G2⟩ := HK.out.at (show j < n' by omega)
          have g0 := keep_below hp.out.2.2 _ _ G0
          have g1 := keep_below hp.out.2.2 _ _ G1
          have g2 := keep_below hp.out.2.2 _ _ G2
          have hz : (us ++ wrap l1 bs1 k1.form) ++ (k.drop (j + 1)).form = xs ++ wrap false bs k.form := by
            have := hp.out.1; rw [hd, Fo.form_cons, ← List.append_assoc] at this; exact this
          have hlen : (us ++ wrap l1 bs1 k1.form).length ≤ 1048576 := by
            have h1 := HLL.out; rw [← hz, List.length_append] at h1; omega
          have HC := Lib.hid (HI.out _ _ us l1 n1 c1 n2 c2 a1 a2 bs1 k1 (Fo.drop_kid hd) (Fo.kid_right HR.out hd) hb1 hk1 (hp.out.2.2.alloc hp.out.2.2.size (.cells #[.bool l1, .slice a1 n1 c1, .slice a2 n2 c2] 25)) (hp.out.2.1.below ((Below.refl _ _).alloc (Nat.le_refl _) _)) hlen)
          have HZ := Lib.hid hz
          have HJ := Lib.hid (show j < n' ∧ wrap64 ((j : Int) + 1) = ((j + 1 : Nat) : Int) by
            refine ⟨by omega, ?_⟩
            have := HN.out; simp only [maxLen] at this; unfold wrap64; omega)
          clear hd hb1 hk1 hp hj hz hlen G0 G1 G2
          go_wp2_with (go_at_call 30; (with_reducible refine HC.out.mono ?_); rintro e y1 ⟨U1, rfl, hO, hb⟩; have H1 := Lib.hid (And.intro hO hb); clear hb hO HC g0 g1 g2 hlt)
          go_roundw
          case rel => exact ⟨j + 1, U1, _, HJ.out.1, by rw [HJ.out.2], rfl, Lib.hid ⟨HZ.out, H1.out.1, H1.out.2⟩⟩
          case measure => rw [HJ.out.2]; have := HJ.out.1; simp [intOf]; omega
        · go_wp2_with (fail)
          go_ret
          have e := hp.out.1
          rw [Fo.drop_end (by have := HK.out.1; omega)] at e
          have e2 : us = xs ++ wrap false bs k.form := by rw [← e]; exact (List.append_nil us).symm
          exact ⟨_, rfl, by rw [← e2]; exact hp.out.2.1, hp.out.2.2⟩
    | true =>
      have HHD : Hid (head (sh true) q = [BitVec.ofNat 8 (192 + q)]) := Lib.hid (by unfold head; rw [if_pos (by omega)]; rfl)
      go_enter Tryd.func30, Tryd.ntmps30
      go_upto_region 13 with (first
        | (go_at_call 42; (with_reducible refine HSI.out.mono ?_); rintro e y1 ⟨rfl, hb⟩; have HF1 := Lib.hid (HF0.out.next hb); have g0 := HF1.out.k0; have g1 := HF1.out.k1; have g2 := HF1.out.k2; clear hb HSI)
        | (go_at_call 41; (with_reducible refine (HCO.out _ HF1.out.below).mono ?_); rintro e y2 ⟨rfl, hb⟩; clear g0 g1 g2; have HF2 := Lib.hid (HF1.out.next hb); have g1 := HF2.out.k1; have g2 := HF2.out.k2; clear hb HCO HF1)
        | (refine wpList_appB rfl (.tmp 26) (.tmp 31) rfl W.heap.size V xs rfl (HF2.out.next ((Below.refl _ _).alloc (Nat.le_refl _) _)).own (some ⟨y2.heap.size, 0, none⟩) 1 1 [BitVec.ofNat 8 (192 + q)] rfl (isB_one _ _ (bvb_of _ _ (by first | rfl | omega) (by omega))) (by have := HQ.out; rw [HHD.out] at this; simp at this ⊢; omega) (by have := HF2.out.below.size; simp; omega) ?_
           intro Vh yh hO hg hat
           have HFh := Lib.hid ((HF2.out.next ((Below.refl _ _).alloc (Nat.le_refl _) _)).grow hO hg hat)
           rw [← HHD.out] at HFh
           clear hO hg hat g1 g2 HF2
           have g1 := HFh.out.k1
           have g2 := HFh.out.k2)
        | (refine wpList_appB rfl (.tmp 47) (.tmp 49) rfl W.heap.size Vh (xs ++ head (sh true) q) rfl HFh.out.own a n c bs rfl (HBB.out.keep (keep_below HFh.out.below)) (by have := HQ.out; have := HQQ.out; simp; omega) HFh.out.below.size ?_
           intro Vb yb hO hg hat
           have HFb := Lib.hid (HFh.out.grow hO hg hat)
           clear hO hg hat g1 g2 HFh
           have g1 := HFb.out.k1
           have g2 := HFb.out.k2))
      clear g1
      go_wp2_with (fail)
      clear g2
      go_loopw [0, 54] (fun t i y => ∃ (j : Nat) (U : Value) (us : List Bt), j ≤ n' ∧ i = .int .i64 j ∧ t = U ∧ Hid (us ++ (k.drop j).form = xs ++ wrap true bs k.form ∧ Own y W.heap.size U us ∧ Below W.heap.size W y)) (fun _ i _ => n' - (intOf i).toNat)
      case atStart => exact ⟨0, Vb, _, Nat.zero_le _, rfl, rfl, Lib.hid ⟨by rw [Fo.drop_zero, HWR.out]; simp only [List.append_assoc], HFb.out.own, HFb.out.below⟩⟩
      case round =>
        obtain ⟨j, U, us, hj, rfl, rfl, hp⟩ := hrel
        clear HFb
        by_cases hlt : (j : Int) < (n' : Int)
        · obtain ⟨b, o, l1, bs1, k1, a1, n1, c1, a2, n2, c2, rfl, hd, hb1, hk1, G0, G1, G2⟩ := HK.out.at (show j < n' by omega)
          have g0 := keep_below hp.out.2.2 _ _ G0
          have g1 := keep_below hp.out.2.2 _ _ G1
          have g2 := keep_below hp.out.2.2 _ _ G2
          have hz : (us ++ wrap l1 bs1 k1.form) ++ (k.drop (j + 1)).form = xs ++ wrap true bs k.form := by
            have := hp.out.1; rw [hd, Fo.form_cons, ← List.append_assoc] at this; exact this
          have hlen : (us ++ wrap l1 bs1 k1.form).length ≤ 1048576 := by
            have h1 := HLL.out; rw [← hz, List.length_append] at h1; omega
          have HC := Lib.hid (HI.out _ _ us l1 n1 c1 n2 c2 a1 a2 bs1 k1 (Fo.drop_kid hd) (Fo.kid_right HR.out hd) hb1 hk1 (hp.out.2.2.alloc hp.out.2.2.size (.cells #[.bool l1, .slice a1 n1 c1, .slice a2 n2 c2] 25)) (hp.out.2.1.below ((Below.refl _ _).alloc (Nat.le_refl _) _)) hlen)
          have HZ := Lib.hid hz
          have HJ := Lib.hid (show j < n' ∧ wrap64 ((j : Int) + 1) = ((j + 1 : Nat) : Int) by
            refine ⟨by omega, ?_⟩
            have := HN.out; simp only [maxLen] at this; unfold wrap64; omega)
          clear hd hb1 hk1 hp hj hz hlen G0 G1 G2
          go_wp2_with (go_at_call 30; (with_reducible refine HC.out.mono ?_); rintro e y1 ⟨U1, rfl, hO, hb⟩; have H1 := Lib.hid (And.intro hO hb); clear hb hO HC g0 g1 g2 hlt)
          go_roundw
          case rel => exact ⟨j + 1, U1, _, HJ.out.1, by rw [HJ.out.2], rfl, Lib.hid ⟨HZ.out, H1.out.1, H1.out.2⟩⟩
          case measure => rw [HJ.out.2]; have := HJ.out.1; simp [intOf]; omega
        · go_wp2_with (fail)
          go_ret
          have e := hp.out.1
          rw [Fo.drop_end (by have := HK.out.1; omega)] at e
          have e2 : us = xs ++ wrap true bs k.form := by rw [← e]; exact (List.append_nil us).symm
          exact ⟨_, rfl, by rw [← e2]; exact hp.out.2.1, hp.out.2.2⟩
  · have HDG : Hid (∀ y, Calls Tryd.prog 25 #[.slice none 0 0, .int .u64 q] y fun e w' => ∃ V, e = .returned V ∧ Own w' y.heap.size V (digs 8 q) ∧ Below y.heap.size y w') := Lib.hid (fun y => digits_walk 8 q (by decide) (by have := HQ.out.1; omega) y)
    cases l with
    | false =>
      have HHD : Hid (head (sh false) q = BitVec.ofNat 8 (183 + (big q).length) :: big q) := Lib.hid (by unfold head; rw [if_neg (by omega)]; rfl)
      go_enter Tryd.func30, Tryd.ntmps30
      go_upto_region 13 with (first
        | (go_at_call 42; (with_reducible refine HSI.out.mono ?_); rintro e y1 ⟨rfl, hb⟩; have HF1 := Lib.hid (HF0.out.next hb); have g0 := HF1.out.k0; have g1 := HF1.out.k1; have g2 := HF1.out.k2; clear hb HSI)
        | (go_at_call 41; (with_reducible refine (HCO.out _ HF1.out.below).mono ?_); rintro e y2 ⟨rfl, hb⟩; clear g0 g1 g2; have HF2 := Lib.hid (HF1.out.next hb); have g1 := HF2.out.k1; have g2 := HF2.out.k2; clear hb HCO HF1)
        | (go_at_call 25; rw [HW.out]; (with_reducible refine (HDG.out y2).mono ?_); rintro e y3 ⟨VD, rfl, hO, hb⟩; obtain ⟨ad, cd, rfl, hBd⟩ := hO.isB; clear g1 g2; have HF3 := Lib.hid (HF2.out.next hb); have HD3 := Lib.hid hBd; have HNE := Lib.hid (show ∀ x, ad = some x → V.ownBlock ≠ some x.block from fun x hx e => by have h1 := (hO.base (k := x.block) (by rw [hx]; rfl)).1; have h2 := (HF2.out.own.base e).2; omega); have g1 := HF3.out.k1; have g2 := HF3.out.k2; clear hb hO hBd HDG HF2)
        | (refine wpList_appB rfl (.tmp 36) (.tmp 42) rfl W.heap.size V xs rfl (HF3.out.next ((Below.refl _ _).alloc (Nat.le_refl _) _)).own (some ⟨y3.heap.size, 0, none⟩) 1 1 [BitVec.ofNat 8 (183 + (big q).length)] rfl (isB_one _ _ (bvb_of _ _ (by have := big_le q; first | rfl | (unfold wrap64; show ((183 + ((big q).length : Int) + 9223372036854775808) % 18446744073709551616 - 9223372036854775808) % 256 = _; omega)) (by have := big_le q; omega))) (by have := HQ.out; rw [HHD.out] at this; simp at this ⊢; omega) (by have := HF3.out.below.size; simp; omega) ?_
           intro V4 y4 hO hg hat
           have HF4 := Lib.hid ((HF3.out.next ((Below.refl _ _).alloc (Nat.le_refl _) _)).grow hO hg hat)
           have HD4 := Lib.hid (isB_grown HF3.out HD3.out ((Below.refl _ _).alloc (Nat.le_refl _) _) hg HNE.out)
           clear hO hg hat g1 g2 HF3 HD3 HNE
           have g1 := HF4.out.k1
           have g2 := HF4.out.k2)
        | (refine wpList_appB rfl (.tmp 44) (.tmp 45) rfl W.heap.size V4 (xs ++ [BitVec.ofNat 8 (183 + (big q).length)]) rfl HF4.out.own ad (digs 8 q).length cd (big q) rfl HD4.out (by have := HQ.out; rw [HHD.out] at this; simp at this ⊢; omega) HF4.out.below.size ?_
           intro Vh yh hO hg hat
           have HFh := Lib.hid (HF4.out.grow hO hg hat)
           rw [List.append_assoc, List.singleton_append, ← HHD.out] at HFh
           clear hO hg hat g1 g2 HF4
           have g1 := HFh.out.k1
           have g2 := HFh.out.k2)
        | (refine wpList_appB rfl (.tmp 47) (.tmp 49) rfl W.heap.size Vh (xs ++ head (sh false) q) rfl HFh.out.own a n c bs rfl (HBB.out.keep (keep_below HFh.out.below)) (by have := HQ.out; have := HQQ.out; simp; omega) HFh.out.below.size ?_
           intro Vb yb hO hg hat
           have HFb := Lib.hid (HFh.out.grow hO hg hat)
           clear hO hg hat g1 g2 HFh
           have g1 := HFb.out.k1
           have g2 := HFb.out.k2))
      clear g1
      go_wp2_with (fail)
      clear g2
      go_loopw [0, 54] (fun t i y => ∃ (j : Nat) (U : Value) (us : List Bt), j ≤ n' ∧ i = .int .i64 j ∧ t = U ∧ Hid (us ++ (k.drop j).form = xs ++ wrap false bs k.form ∧ Own y W.heap.size U us ∧ Below W.heap.size W y)) (fun _ i _ => n' - (intOf i).toNat)
      case atStart => exact ⟨0, Vb, _, Nat.zero_le _, rfl, rfl, Lib.hid ⟨by rw [Fo.drop_zero, HWR.out]; simp only [List.append_assoc], HFb.out.own, HFb.out.below⟩⟩
      case round =>
        obtain ⟨j, U, us, hj, rfl, rfl, hp⟩ := hrel
        clear HFb
        by_cases hlt : (j : Int) < (n' : Int)
        · obtain ⟨b, o, l1, bs1, k1, a1, n1, c1, a2, n2, c2, rfl, hd, hb1, hk1, G0, G1, G2⟩ := HK.out.at (show j < n' by omega)
          have g0 := keep_below hp.out.2.2 _ _ G0
          have g1 := keep_below hp.out.2.2 _ _ G1
          have g2 := keep_below hp.out.2.2 _ _ G2
          have hz : (us ++ wrap l1 bs1 k1.form) ++ (k.drop (j + 1)).form = xs ++ wrap false bs k.form := by
            have := hp.out.1; rw [hd, Fo.form_cons, ← List.append_assoc] at this; exact this
          have hlen : (us ++ wrap l1 bs1 k1.form).length ≤ 1048576 := by
            have h1 := HLL.out; rw [← hz, List.length_append] at h1; omega
          have HC := Lib.hid (HI.out _ _ us l1 n1 c1 n2 c2 a1 a2 bs1 k1 (Fo.drop_kid hd) (Fo.kid_right HR.out hd) hb1 hk1 (hp.out.2.2.alloc hp.out.2.2.size (.cells #[.bool l1, .slice a1 n1 c1, .slice a2 n2 c2] 25)) (hp.out.2.1.below ((Below.refl _ _).alloc (Nat.le_refl _) _)) hlen)
          have HZ := Lib.hid hz
          have HJ := Lib.hid (show j < n' ∧ wrap64 ((j : Int) + 1) = ((j + 1 : Nat) : Int) by
            refine ⟨by omega, ?_⟩
            have := HN.out; simp only [maxLen] at this; unfold wrap64; omega)
          clear hd hb1 hk1 hp hj hz hlen G0 G1 G2
          go_wp2_with (go_at_call 30; (with_reducible refine HC.out.mono ?_); rintro e y1 ⟨U1, rfl, hO, hb⟩; have H1 := Lib.hid (And.intro hO hb); clear hb hO HC g0 g1 g2 hlt)
          go_roundw
          case rel => exact ⟨j + 1, U1, _, HJ.out.1, by rw [HJ.out.2], rfl, Lib.hid ⟨HZ.out, H1.out.1, H1.out.2⟩⟩
          case measure => rw [HJ.out.2]; have := HJ.out.1; simp [intOf]; omega
        · go_wp2_with (fail)
          go_ret
          have e := hp.out.1
          rw [Fo.drop_end (by have := HK.out.1; omega)] at e
          have e2 : us = xs ++ wrap false bs k.form := by rw [← e]; exact (List.append_nil us).symm
          exact ⟨_, rfl, by rw [← e2]; exact hp.out.2.1, hp.out.2.2⟩
    | true =>
      have HHD : Hid (head (sh true) q = BitVec.ofNat 8 (247 + (big q).length) :: big q) := Lib.hid (by unfold head; rw [if_neg (by omega)]; rfl)
      go_enter Tryd.func30, Tryd.ntmps30
      go_upto_region 13 with (first
        | (go_at_call 42; (with_reducible refine HSI.out.mono ?_); rintro e y1 ⟨rfl, hb⟩; have HF1 := Lib.hid (HF0.out.next hb); have g0 := HF1.out.k0; have g1 := HF1.out.k1; have g2 := HF1.out.k2; clear hb HSI)
        | (go_at_call 41; (with_reducible refine (HCO.out _ HF1.out.below).mono ?_); rintro e y2 ⟨rfl, hb⟩; clear g0 g1 g2; have HF2 := Lib.hid (HF1.out.next hb); have g1 := HF2.out.k1; have g2 := HF2.out.k2; clear hb HCO HF1)
        | (go_at_call 25; rw [HW.out]; (with_reducible refine (HDG.out y2).mono ?_); rintro e y3 ⟨VD, rfl, hO, hb⟩; obtain ⟨ad, cd, rfl, hBd⟩ := hO.isB; clear g1 g2; have HF3 := Lib.hid (HF2.out.next hb); have HD3 := Lib.hid hBd; have HNE := Lib.hid (show ∀ x, ad = some x → V.ownBlock ≠ some x.block from fun x hx e => by have h1 := (hO.base (k := x.block) (by rw [hx]; rfl)).1; have h2 := (HF2.out.own.base e).2; omega); have g1 := HF3.out.k1; have g2 := HF3.out.k2; clear hb hO hBd HDG HF2)
        | (refine wpList_appB rfl (.tmp 36) (.tmp 42) rfl W.heap.size V xs rfl (HF3.out.next ((Below.refl _ _).alloc (Nat.le_refl _) _)).own (some ⟨y3.heap.size, 0, none⟩) 1 1 [BitVec.ofNat 8 (247 + (big q).length)] rfl (isB_one _ _ (bvb_of _ _ (by have := big_le q; first | rfl | (unfold wrap64; show ((247 + ((big q).length : Int) + 9223372036854775808) % 18446744073709551616 - 9223372036854775808) % 256 = _; omega)) (by have := big_le q; omega))) (by have := HQ.out; rw [HHD.out] at this; simp at this ⊢; omega) (by have := HF3.out.below.size; simp; omega) ?_
           intro V4 y4 hO hg hat
           have HF4 := Lib.hid ((HF3.out.next ((Below.refl _ _).alloc (Nat.le_refl _) _)).grow hO hg hat)
           have HD4 := Lib.hid (isB_grown HF3.out HD3.out ((Below.refl _ _).alloc (Nat.le_refl _) _) hg HNE.out)
           clear hO hg hat g1 g2 HF3 HD3 HNE
           have g1 := HF4.out.k1
           have g2 := HF4.out.k2)
        | (refine wpList_appB rfl (.tmp 44) (.tmp 45) rfl W.heap.size V4 (xs ++ [BitVec.ofNat 8 (247 + (big q).length)]) rfl HF4.out.own ad (digs 8 q).length cd (big q) rfl HD4.out (by have := HQ.out; rw [HHD.out] at this; simp at this ⊢; omega) HF4.out.below.size ?_
           intro Vh yh hO hg hat
           have HFh := Lib.hid (HF4.out.grow hO hg hat)
           rw [List.append_assoc, List.singleton_append, ← HHD.out] at HFh
           clear hO hg hat g1 g2 HF4
           have g1 := HFh.out.k1
           have g2 := HFh.out.k2)
        | (refine wpList_appB rfl (.tmp 47) (.tmp 49) rfl W.heap.size Vh (xs ++ head (sh true) q) rfl HFh.out.own a n c bs rfl (HBB.out.keep (keep_below HFh.out.below)) (by have := HQ.out; have := HQQ.out; simp; omega) HFh.out.below.size ?_
           intro Vb yb hO hg hat
           have HFb := Lib.hid (HFh.out.grow hO hg hat)
           clear hO hg hat g1 g2 HFh
           have g1 := HFb.out.k1
           have g2 := HFb.out.k2))
      clear g1
      go_wp2_with (fail)
      clear g2
      go_loopw [0, 54] (fun t i y => ∃ (j : Nat) (U : Value) (us : List Bt), j ≤ n' ∧ i = .int .i64 j ∧ t = U ∧ Hid (us ++ (k.drop j).form = xs ++ wrap true bs k.form ∧ Own y W.heap.size U us ∧ Below W.heap.size W y)) (fun _ i _ => n' - (intOf i).toNat)
      case atStart => exact ⟨0, Vb, _, Nat.zero_le _, rfl, rfl, Lib.hid ⟨by rw [Fo.drop_zero, HWR.out]; simp only [List.append_assoc], HFb.out.own, HFb.out.below⟩⟩
      case round =>
        obtain ⟨j, U, us, hj, rfl, rfl, hp⟩ := hrel
        clear HFb
        by_cases hlt : (j : Int) < (n' : Int)
        · obtain ⟨b, o, l1, bs1, k1, a1, n1, c1, a2, n2, c2, rfl, hd, hb1, hk1, G0, G1, G2⟩ := HK.out.at (show j < n' by omega)
          have g0 := keep_below hp.out.2.2 _ _ G0
          have g1 := keep_below hp.out.2.2 _ _ G1
          have g2 := keep_below hp.out.2.2 _ _ G2
          have hz : (us ++ wrap l1 bs1 k1.form) ++ (k.drop (j + 1)).form = xs ++ wrap true bs k.form := by
            have := hp.out.1; rw [hd, Fo.form_cons, ← List.append_assoc] at this; exact this
          have hlen : (us ++ wrap l1 bs1 k1.form).length ≤ 1048576 := by
            have h1 := HLL.out; rw [← hz, List.length_append] at h1; omega
          have HC := Lib.hid (HI.out _ _ us l1 n1 c1 n2 c2 a1 a2 bs1 k1 (Fo.drop_kid hd) (Fo.kid_right HR.out hd) hb1 hk1 (hp.out.2.2.alloc hp.out.2.2.size (.cells #[.bool l1, .slice a1 n1 c1, .slice a2 n2 c2] 25)) (hp.out.2.1.below ((Below.refl _ _).alloc (Nat.le_refl _) _)) hlen)
          have HZ := Lib.hid hz
          have HJ := Lib.hid (show j < n' ∧ wrap64 ((j : Int) + 1) = ((j + 1 : Nat) : Int) by
            refine ⟨by omega, ?_⟩
            have := HN.out; simp only [maxLen] at this; unfold wrap64; omega)
          clear hd hb1 hk1 hp hj hz hlen G0 G1 G2
          go_wp2_with (go_at_call 30; (with_reducible refine HC.out.mono ?_); rintro e y1 ⟨U1, rfl, hO, hb⟩; have H1 := Lib.hid (And.intro hO hb); clear hb hO HC g0 g1 g2 hlt)
          go_roundw
          case rel => exact ⟨j + 1, U1, _, HJ.out.1, by rw [HJ.out.2], rfl, Lib.hid ⟨HZ.out, H1.out.1, H1.out.2⟩⟩
          case measure => rw [HJ.out.2]; have := HJ.out.1; simp [intOf]; omega
        · go_wp2_with (fail)
          go_ret
          have e := hp.out.1
          rw [Fo.drop_end (by have := HK.out.1; omega)] at e
          have e2 : us = xs ++ wrap true bs k.form := by rw [← e]; exact (List.append_nil us).symm
          exact ⟨_, rfl, by rw [← e2]; exact hp.out.2.1, hp.out.2.2⟩
theorem form_walk (W w : World) (V : Value) (xs : List Bt) (l : Bool) (n c n' c' : Nat) (a a' : Option Addr) (bs : List Bt) (k : Fo) (hr : whole l bs.length k = true) (hB : IsB W a n c bs) (hK : IsK W a' n' c' k)
    (hb : Below W.heap.size W w) (ho : Own w W.heap.size V xs) (hl : (xs ++ wrap l bs k.form).length ≤ 1048576) :
    Calls Tryd.prog 30 #[V, .agg #[.bool l, .slice a n c, .slice a' n' c']] w fun e w' => ∃ V', e = .returned V' ∧ Own w' W.heap.size V' (xs ++ wrap l bs k.form) ∧ Below W.heap.size W w' := by
  generalize hz : k.size = z at *
  induction z using Nat.strongRecOn generalizing w V xs l n c n' c' a a' bs k with
  | _ z ih =>
    subst hz
    cases hs : single l bs with
    | false => exact form_many W w V xs l n c n' c' a a' bs k hs hr hB hK hb ho hl fun w V xs l n c n' c' a a' bs k1 h1 h2 h3 h4 h5 h6 h7 => ih k1.size h1 w V xs l n c n' c' a a' bs k1 h2 h3 h4 h5 h6 h7 rfl
    | true =>
      obtain ⟨rfl, x, rfl, hx⟩ := single_iff.1 hs
      have e : wrap false [x] k.form = [x] := by unfold wrap; rw [if_pos hs]
      rw [e] at hl ⊢
      rcases hB.2.2.2.2 with h0 | ⟨b, o, rfl, h6⟩
      · have := hB.1; rw [h0] at this; simp at this
      · obtain rfl : n = 1 := hB.1
        exact form_one W w V xs c n' c' b o a' x hx hb ho (by simpa using hl) (h6 0 x rfl)
end Rl
end Go.Proofs.YthlmjcochpodgaaDoor
