/- RLP: merged. Own work. -/
import Derived.Test.YthlmjcochpodgaaDoorJ1
import Derived.RegionTactic
import Derived.Laws.Bits64b
namespace Go.Proofs.YthlmjcochpodgaaDoor
open Go.ChangeShapes Go.WideShapes Go.Deep Go.RowKit
set_option linter.unusedVariables false
set_option linter.unusedSimpArgs false
namespace Rl
/-- A row that grows, beside a box of the call's own. -/
structure Fm (W : World) (q : Nat) (c0 c1 c2 : Value) (V : Value) (xs : List Bt) (w : World) : Prop where
  own : Own w W.heap.size V xs
  below : Below W.heap.size W w
  ge : W.heap.size ≤ q
  ne : V.ownBlock ≠ some q
  lt : q < w.heap.size
  k0 : w.cell? ⟨q, 0, none⟩ = some c0
  k1 : w.cell? ⟨q, 1, none⟩ = some c1
  k2 : w.cell? ⟨q, 2, none⟩ = some c2
theorem Fm.next {W : World} {q : Nat} {c0 c1 c2 V : Value} {xs : List Bt} {w w' : World} (h : Fm W q c0 c1 c2 V xs w) (hb : Below w.heap.size w w') : Fm W q c0 c1 c2 V xs w' :=
  ⟨h.own.below hb, bl h.below hb, h.ge, h.ne, Nat.lt_of_lt_of_le h.lt hb.size, keep1 hb h.k0, keep1 hb h.k1, keep1 hb h.k2⟩
theorem Fm.grow {W : World} {q : Nat} {c0 c1 c2 V V' : Value} {xs ys : List Bt} {w w' : World} (h : Fm W q c0 c1 c2 V xs w) (ho : Own w' W.heap.size V' ys) (hg : w.grownBy w' V.ownBlock) (hat : ∀ k, V'.ownBlock = some k → V.ownBlock = some k ∨ k = w.heap.size) : Fm W q c0 c1 c2 V' ys w' :=
  ⟨ho, h.below.grown hg h.below.size (fun k hk => (h.own.base hk).1), h.ge, fun e => (by rcases hat q e with h1 | h1; exact h.ne h1; have := h.lt; omega), Nat.lt_of_lt_of_le h.lt hg.size,
    hg.cell h.k0 (fun e => h.ne e.symm), hg.cell h.k1 (fun e => h.ne e.symm), hg.cell h.k2 (fun e => h.ne e.symm)⟩
set_option maxHeartbeats 2000000 in
set_option maxRecDepth 100000 in
theorem form_one (W w : World) (V : Value) (xs : List Bt) (c n' c' b o : Nat) (a' : Option Addr) (x : Bt) (hx : x.toNat < 128) (hb : Below W.heap.size W w) (ho : Own w W.heap.size V xs) (hl : xs.length + 1 ≤ 1048576) (hcell : W.cell? ⟨b, o, none⟩ = some (bvb x)) :
    Calls Tryd.prog 30 #[V, .agg #[.bool false, .slice (some ⟨b, o, none⟩) 1 c, .slice a' n' c']] w fun e w' => ∃ V', e = .returned V' ∧ Own w' W.heap.size V' (xs ++ [x]) ∧ Below W.heap.size W w' := by
  have HS := Lib.hid (single_one (w.alloc (.cells #[.bool false, .slice (some ⟨b, o, none⟩) 1 c, .slice a' n' c'] 25)) c n' c' b o a' x (keep_below (hb.alloc hb.size _) _ _ hcell))
  have HF : Hid (Fm W w.heap.size (.bool false) (.slice (some ⟨b, o, none⟩) 1 c) (.slice a' n' c') V xs (w.alloc (.cells #[.bool false, .slice (some ⟨b, o, none⟩) 1 c, .slice a' n' c'] 25))) :=
    Lib.hid ⟨ho.below ((Below.refl _ _).alloc (Nat.le_refl _) _), hb.alloc hb.size _, hb.size, fun e => by have := (ho.base e).2; omega, by simp, by simp, by simp, by simp⟩
  have HL := Lib.hid hl
  have HX := Lib.hid hcell
  rw [decide_eq_true hx] at HS
  clear hb ho hl hcell hx
  go_enter Tryd.func30, Tryd.ntmps30
  go_wp2_with (first
    | (go_at_call 42; (with_reducible refine HS.out.mono ?_); rintro e y1 ⟨rfl, hb⟩; have HF := Lib.hid (HF.out.next hb); have g1 := HF.out.k1; have gx := keep_below HF.out.below _ _ HX.out; unfold bvb at gx; clear hb HS)
    | (refine wpList_appB rfl (.tmp 13) (.tmp 18) rfl W.heap.size V xs rfl (HF.out.next ((Below.refl _ _).alloc (Nat.le_refl _) _)).own (some ⟨y1.heap.size, 0, none⟩) 1 1 [x] rfl (isB_one _ _ rfl) (Nat.le_trans HL.out (by decide)) (by have := HF.out.below.size; simp; omega) ?_
       intro V2 y2 hO2 hg hat
       have HF2 := Lib.hid ((HF.out.next ((Below.refl _ _).alloc (Nat.le_refl _) _)).grow hO2 hg hat)
       clear hO2 hg hat))
  go_ret
  exact ⟨V2, rfl, HF2.out.own, HF2.out.below⟩
theorem bvb_of (z : Int) (m : Nat) (h : z = (m : Int)) (hm : m < 256) : Value.int .u8 z = bvb (BitVec.ofNat 8 m) := by
  subst h; unfold bvb; rw [BitVec.toNat_ofNat, Nat.mod_eq_of_lt (by simpa using hm)]
theorem isB_grown {W w w1 w2 : World} {q : Nat} {c0 c1 c2 V : Value} {xs bs : List Bt} {a : Option Addr} {n c : Nat} (hf : Fm W q c0 c1 c2 V xs w) (h : IsB w a n c bs) (hb : Below w.heap.size w w1) (hg : w1.grownBy w2 V.ownBlock)
    (hne : ∀ x, a = some x → V.ownBlock ≠ some x.block) : IsB w2 a n c bs := by
  obtain ⟨h1, h2, h3, h4, h5⟩ := h
  refine ⟨h1, h2, h3, h4, h5.imp id ?_⟩
  rintro ⟨b, o, e, h6⟩
  exact ⟨b, o, e, fun i x hx => hg.cell (keep_below hb _ _ (h6 i x hx)) (fun e2 => hne _ e e2.symm)⟩
set_option maxHeartbeats 8000000 in
set_option maxRecDepth 100000 in
theorem form_many (W w : World) (V : Value) (xs : List Bt) (l : Bool) (n c n' c' : Nat) (a a' : Option Addr) (bs : List Bt) (k : Fo) (hs : single l bs = false) (hr : whole l bs.length k = true) (hB : IsB W a n c bs) (hK : IsK W a' n' c' k)
    (hb : Below W.heap.size W w) (ho : Own w W.heap.size V xs) (hl : (xs ++ wrap l bs k.form).length ≤ 1048576)
    (ih : ∀ (w : World) (V : Value) (xs : List Bt) (l : Bool) (n c n' c' : Nat) (a a' : Option Addr) (bs : List Bt) (k1 : Fo), k1.size < k.size → whole l bs.length k1 = true → IsB W a n c bs → IsK W a' n' c' k1 → Below W.heap.size W w → Own w W.heap.size V xs →
      (xs ++ wrap l bs k1.form).length ≤ 1048576 → Calls Tryd.prog 30 #[V, .agg #[.bool l, .slice a n c, .slice a' n' c']] w fun e w' => ∃ V', e = .returned V' ∧ Own w' W.heap.size V' (xs ++ wrap l bs k1.form) ∧ Below W.heap.size W w') :
    Calls Tryd.prog 30 #[V, .agg #[.bool l, .slice a n c, .slice a' n' c']] w fun e w' => ∃ V', e = .returned V' ∧ Own w' W.heap.size V' (xs ++ wrap l bs k.form) ∧ Below W.heap.size W w' := by
  have HF0 : Hid (Fm W w.heap.size (.bool l) (.slice a n c) (.slice a' n' c') V xs (w.alloc (.cells #[.bool l, .slice a n c, .slice a' n' c'] 25))) :=
    Lib.hid ⟨ho.below ((Below.refl _ _).alloc (Nat.le_refl _) _), hb.alloc hb.size _, hb.size, fun e => by have := (ho.base e).2; omega, by simp, by simp, by simp, by simp⟩
  have HWR : Hid (wrap l bs k.form = head (sh l) (bs.length + k.form.length) ++ (bs ++ k.form)) := Lib.hid (by unfold wrap; rw [hs, List.length_append]; rfl)
  generalize hq : bs.length + k.form.length = q at *
  have HQ : Hid (q ≤ 1048576 ∧ xs.length + (head (sh l) q).length + q ≤ 1048576) := Lib.hid (by
    rw [HWR.out] at hl; simp only [List.length_append] at hl; omega)
  have HSI : Hid (Calls Tryd.prog 42 #[.agg #[.bool l, .slice a n c, .slice a' n' c']] (w.alloc (.cells #[.bool l, .slice a n c, .slice a' n' c'] 25)) fun e w' => e = .returned (.bool false) ∧ Below (w.alloc (.cells #[.bool l, .slice a n c, .slice a' n' c'] 25)).heap.size (w.alloc (.cells #[.bool l, .slice a n c, .slice a' n' c'] 25)) w') := Lib.hid (by
    have := single_walk (w.alloc (.cells #[.bool l, .slice a n c, .slice a' n' c'] 25)) l n c n' c' a a' bs (hB.keep (keep_below HF0.out.below))
    rw [hs] at this; exact this)
  have HCO : Hid (∀ y, Below W.heap.size W y → Calls Tryd.prog 41 #[.agg #[.bool l, .slice a n c, .slice a' n' c']] y fun e w' => e = .returned (.int .i64 q) ∧ Below y.heap.size y w') := Lib.hid (fun y hy => by
    have := content_step y l n c n' c' a a' bs k (hB.keep (keep_below hy)) (hK.keep (keep_below hy)) (by have := HQ.out.1; unfold B30; omega) (whole_kids hr) fun w l n c n' c' a a' bs k1 h1 h2 h3 h4 h5 => size_walk w l n c n' c' a a' bs k1 h3 h4 h5 h2
    rw [hq] at this; exact this)
  have HI := Lib.hid ih
  have HR := Lib.hid (whole_kids hr)
  have HBB := Lib.hid hB
  have HK := Lib.hid hK
  have HW : Hid (IntKind.u64.wrap (q : Int) = (q : Int)) := Lib.hid (by have := HQ.out; show (q : Int) % 18446744073709551616 = q; omega)
  have HN : Hid (n' ≤ maxLen) := Lib.hid (Nat.le_trans hK.2.1 hK.2.2.1)
  have HQQ := Lib.hid hq
  have HLL := Lib.hid hl
  clear hs hr hB hK hb ho hl ih hq
  by_cases h56 : (q : Int) < 56
  · cases l with
    | false =>
      have HHD : Hid (head (sh false) q = [BitVec.ofNat 8 (128 + q)]) := Lib.hid (by unfold head; rw [if_pos (by omega)]; rfl)
      go_enter Tryd.func30, Tryd.ntmps30
      go_upto_region 13 with (first
        | (go_at_call 42; (with_reducible refine HSI.out.mono ?_); rintro e y1 ⟨rfl, hb⟩; have HF1 := Lib.hid (HF0.out.next hb); have g0 := HF1.out.k0; have g1 := HF1.out.k1; have g2 := HF1.out.k2; clear hb HSI)
        | (go_at_call 41; (with_reducible refine (HCO.out _ HF1.out.below).mono ?_); rintro e y2 ⟨rfl, hb⟩; clear g0 g1 g2; have HF2 := Lib.hid (HF1.out.next hb); have g1 := HF2.out.k1; have g2 := HF2.out.k2; clear hb HCO HF1)
        | (refine wpList_appB rfl (.tmp 26) (.tmp 31) rfl W.heap.size V xs rfl (HF2.out.next ((Below.refl _ _).alloc (Nat.le_refl _) _)).own (some ⟨y2.heap.size, 0, none⟩) 1 1 [BitVec.ofNat 8 (128 + q)] rfl (isB_one _ _ (bvb_of _ _ (by first | rfl | omega) (by omega))) (by have := HQ.out; rw [HHD.out] at this; simp at this ⊢; omega) (by have := HF2.out.below.size; simp; omega) ?_
           intro Vh yh hO hg hat
           have HFh := Lib.hid ((HF2.out.next ((Below.refl _ _).alloc (Nat.le_refl _) _)).grow hO hg hat)
           rw [← HHD.out] at HFh
           clear hO hg hat g1 g2 HF2
           have g1 := HFh.out.k1
           have g2 := HFh.out.k2)
        | (refine wpList_appB rfl (.tmp 47) (.tmp 49) rfl W.heap.size Vh (xs ++ head (sh false) q) rfl HFh.out.own a n c bs rfl (HBB.out.keep (keep_below HFh.out.below)) (by have := HQ.out; have := HQQ.out; simp; omega) HFh.out.below.size ?_
           intro Vb yb hO hg hat
           have HFb := Lib.hid (HFh.out.grow hO hg hat)
           clear hO hg hat g1 g2 HFh
           have g1 := HFb.out.k1
           have g2 := HFb.out.k2))
      clear g1
      go_wp2_with (fail)
      clear g2
      go_loopw [0, 54] (fun t i y => ∃ (j : Nat) (U : Value) (us : List Bt), j ≤ n' ∧ i = .int .i64 j ∧ t = U ∧ Hid (us ++ (k.drop j).form = xs ++ wrap false bs k.form ∧ Own y W.heap.size U us ∧ Below W.heap.size W y)) (fun _ i _ => n' - (intOf i).toNat)
      case atStart => exact ⟨0, Vb, _, Nat.zero_le _, rfl, rfl, Lib.hid ⟨by rw [Fo.drop_zero, HWR.out]; simp only [List.append_assoc], HFb.out.own, HFb.out.below⟩⟩
      case round =>
        obtain ⟨j, U, us, hj, rfl, rfl, hp⟩ := hrel
        clear HFb
        by_cases hlt : (j : Int) < (n' : Int)
        · obtain ⟨b, o, l1, bs1, k1, a1, n1, c1, a2, n2, c2, rfl, hd, hb1, hk1, G0, G1, G2⟩ := HK.out.at (show j < n' by omega)
          have g0 := keep_below hp.out.2.2 _ _ G0
          have g1 := keep_below hp.out.2.2 _ _ G1
          have g2 := keep_below hp.out.2.2 _ _ G2
          have hz : (us ++ wrap l1 bs1 k1.form) ++ (k.drop (j + 1)).form = xs ++ wrap false bs k.form := by
            have := hp.out.1; rw [hd, Fo.form_cons, ← List.append_assoc] at this; exact this
          have hlen : (us ++ wrap l1 bs1 k1.form).length ≤ 1048576 := by
            have h1 := HLL.out; rw [← hz, List.length_append] at h1; omega
          have HC := Lib.hid (HI.out _ _ us l1 n1 c1 n2 c2 a1 a2 bs1 k1 (Fo.drop_kid hd) (Fo.kid_right HR.out hd) hb1 hk1 (hp.out.2.2.alloc hp.out.2.2.size (.cells #[.bool l1, .slice a1 n1 c1, .slice a2 n2 c2] 25)) (hp.out.2.1.below ((Below.refl _ _).alloc (Nat.le_refl _) _)) hlen)
          have HZ := Lib.hid hz
          have HJ := Lib.hid (show j < n' ∧ wrap64 ((j : Int) + 1) = ((j + 1 : Nat) : Int) by
            refine ⟨by omega, ?_⟩
            have := HN.out; simp only [maxLen] at this; unfold wrap64; omega)
          clear hd hb1 hk1 hp hj hz hlen G0 G1 G2
          go_wp2_with (go_at_call 30; (with_reducible refine HC.out.mono ?_); rintro e y1 ⟨U1, rfl, hO, hb⟩; have H1 := Lib.hid (And.intro hO hb); clear hb hO HC g0 g1 g2 hlt)
          go_roundw
          case rel => exact ⟨j + 1, U1, _, HJ.out.1, by rw [HJ.out.2], rfl, Lib.hid ⟨HZ.out, H1.out.1, H1.out.2⟩⟩
          case measure => rw [HJ.out.2]; have := HJ.out.1; simp [intOf]; omega
        · go_wp2_with (fail)
          go_ret
          have e := hp.out.1
          rw [Fo.drop_end (by have := HK.out.1; omega)] at e
          have e2 : us = xs ++ wrap false bs k.form := by rw [← e]; exact (List.append_nil us).symm
          exact ⟨_, rfl, by rw [← e2]; exact hp.out.2.1, hp.out.2.2⟩
    | true =>
      have HHD : Hid (head (sh true) q = [BitVec.ofNat 8 (192 + q)]) := Lib.hid (by unfold head; rw [if_pos (by omega)]; rfl)
      go_enter Tryd.func30, Tryd.ntmps30
      go_upto_region 13 with (first
        | (go_at_call 42; (with_reducible refine HSI.out.mono ?_); rintro e y1 ⟨rfl, hb⟩; have HF1 := Lib.hid (HF0.out.next hb); have g0 := HF1.out.k0; have g1 := HF1.out.k1; have g2 := HF1.out.k2; clear hb HSI)
        | (go_at_call 41; (with_reducible refine (HCO.out _ HF1.out.below).mono ?_); rintro e y2 ⟨rfl, hb⟩; clear g0 g1 g2; have HF2 := Lib.hid (HF1.out.next hb); have g1 := HF2.out.k1; have g2 := HF2.out.k2; clear hb HCO HF1)
        | (refine wpList_appB rfl (.tmp 26) (.tmp 31) rfl W.heap.size V xs rfl (HF2.out.next ((Below.refl _ _).alloc (Nat.le_refl _) _)).own (some ⟨y2.heap.size, 0, none⟩) 1 1 [BitVec.ofNat 8 (192 + q)] rfl (isB_one _ _ (bvb_of _ _ (by first | rfl | omega) (by omega))) (by have := HQ.out; rw [HHD.out] at this; simp at this ⊢; omega) (by have := HF2.out.below.size; simp; omega) ?_
           intro Vh yh hO hg hat
           have HFh := Lib.hid ((HF2.out.next ((Below.refl _ _).alloc (Nat.le_refl _) _)).grow hO hg hat)
           rw [← HHD.out] at HFh
           clear hO hg hat g1 g2 HF2
           have g1 := HFh.out.k1
           have g2 := HFh.out.k2)
        | (refine wpList_appB rfl (.tmp 47) (.tmp 49) rfl W.heap.size Vh (xs ++ head (sh true) q) rfl HFh.out.own a n c bs rfl (HBB.out.keep (keep_below HFh.out.below)) (by have := HQ.out; have := HQQ.out; simp; omega) HFh.out.below.size ?_
           intro Vb yb hO hg hat
           have HFb := Lib.hid (HFh.out.grow hO hg hat)
           clear hO hg hat g1 g2 HFh
           have g1 := HFb.out.k1
           have g2 := HFb.out.k2))
      clear g1
      go_wp2_with (fail)
      clear g2
      go_loopw [0, 54] (fun t i y => ∃ (j : Nat) (U : Value) (us : List Bt), j ≤ n' ∧ i = .int .i64 j ∧ t = U ∧ Hid (us ++ (k.drop j).form = xs ++ wrap true bs k.form ∧ Own y W.heap.size U us ∧ Below W.heap.size W y)) (fun _ i _ => n' - (intOf i).toNat)
      case atStart => exact ⟨0, Vb, _, Nat.zero_le _, rfl, rfl, Lib.hid ⟨by rw [Fo.drop_zero, HWR.out]; simp only [List.append_assoc], HFb.out.own, HFb.out.below⟩⟩
      case round =>
        obtain ⟨j, U, us, hj, rfl, rfl, hp⟩ := hrel
        clear HFb
        by_cases hlt : (j : Int) < (n' : Int)
        · obtain ⟨b, o, l1, bs1, k1, a1, n1, c1, a2, n2, c2, rfl, hd, hb1, hk1, G0, G1, G2⟩ := HK.out.at (show j < n' by omega)
          have g0 := keep_below hp.out.2.2 _ _ G0
          have g1 := keep_below hp.out.2.2 _ _ G1
          have g2 := keep_below hp.out.2.2 _ _ G2
          have hz : (us ++ wrap l1 bs1 k1.form) ++ (k.drop (j + 1)).form = xs ++ wrap true bs k.form := by
            have := hp.out.1; rw [hd, Fo.form_cons, ← List.append_assoc] at this; exact this
          have hlen : (us ++ wrap l1 bs1 k1.form).length ≤ 1048576 := by
            have h1 := HLL.out; rw [← hz, List.length_append] at h1; omega
          have HC := Lib.hid (HI.out _ _ us l1 n1 c1 n2 c2 a1 a2 bs1 k1 (Fo.drop_kid hd) (Fo.kid_right HR.out hd) hb1 hk1 (hp.out.2.2.alloc hp.out.2.2.size (.cells #[.bool l1, .slice a1 n1 c1, .slice a2 n2 c2] 25)) (hp.out.2.1.below ((Below.refl _ _).alloc (Nat.le_refl _) _)) hlen)
          have HZ := Lib.hid hz
          have HJ := Lib.hid (show j < n' ∧ wrap64 ((j : Int) + 1) = ((j + 1 : Nat) : Int) by
            refine ⟨by omega, ?_⟩
            have := HN.out; simp only [maxLen] at this; unfold wrap64; omega)
          clear hd hb1 hk1 hp hj hz hlen G0 G1 G2
          go_wp2_with (go_at_call 30; (with_reducible refine HC.out.mono ?_); rintro e y1 ⟨U1, rfl, hO, hb⟩; have H1 := Lib.hid (And.intro hO hb); clear hb hO HC g0 g1 g2 hlt)
          go_roundw
          case rel => exact ⟨j + 1, U1, _, HJ.out.1, by rw [HJ.out.2], rfl, Lib.hid ⟨HZ.out, H1.out.1, H1.out.2⟩⟩
          case measure => rw [HJ.out.2]; have := HJ.out.1; simp [intOf]; omega
        · go_wp2_with (fail)
          go_ret
          have e := hp.out.1
          rw [Fo.drop_end (by have := HK.out.1; omega)] at e
          have e2 : us = xs ++ wrap true bs k.form := by rw [← e]; exact (List.append_nil us).symm
          exact ⟨_, rfl, by rw [← e2]; exact hp.out.2.1, hp.out.2.2⟩
  · have HDG : Hid (∀ y, Calls Tryd.prog 25 #[.slice none 0 0, .int .u64 q] y fun e w' => ∃ V, e = .returned V ∧ Own w' y.heap.size V (digs 8 q) ∧ Below y.heap.size y w') := Lib.hid (fun y => digits_walk 8 q (by decide) (by have := HQ.out.1; omega) y)
    cases l with
    | false =>
      have HHD : Hid (head (sh false) q = BitVec.ofNat 8 (183 + (big q).length) :: big q) := Lib.hid (by unfold head; rw [if_neg (by omega)]; rfl)
      go_enter Tryd.func30, Tryd.ntmps30
      go_upto_region 13 with (first
        | (go_at_call 42; (with_reducible refine HSI.out.mono ?_); rintro e y1 ⟨rfl, hb⟩; have HF1 := Lib.hid (HF0.out.next hb); have g0 := HF1.out.k0; have g1 := HF1.out.k1; have g2 := HF1.out.k2; clear hb HSI)
        | (go_at_call 41; (with_reducible refine (HCO.out _ HF1.out.below).mono ?_); rintro e y2 ⟨rfl, hb⟩; clear g0 g1 g2; have HF2 := Lib.hid (HF1.out.next hb); have g1 := HF2.out.k1; have g2 := HF2.out.k2; clear hb HCO HF1)
        | (go_at_call 25; rw [HW.out]; (with_reducible refine (HDG.out y2).mono ?_); rintro e y3 ⟨VD, rfl, hO, hb⟩; obtain ⟨ad, cd, rfl, hBd⟩ := hO.isB; clear g1 g2; have HF3 := Lib.hid (HF2.out.next hb); have HD3 := Lib.hid hBd; have HNE := Lib.hid (show ∀ x, ad = some x → V.ownBlock ≠ some x.block from fun x hx e => by have h1 := (hO.base (k := x.block) (by rw [hx]; rfl)).1; have h2 := (HF2.out.own.base e).2; omega); have g1 := HF3.out.k1; have g2 := HF3.out.k2; clear hb hO hBd HDG HF2)
        | (refine wpList_appB rfl (.tmp 36) (.tmp 42) rfl W.heap.size V xs rfl (HF3.out.next ((Below.refl _ _).alloc (Nat.le_refl _) _)).own (some ⟨y3.heap.size, 0, none⟩) 1 1 [BitVec.ofNat 8 (183 + (big q).length)] rfl (isB_one _ _ (bvb_of _ _ (by have := big_le q; first | rfl | (unfold wrap64; show ((183 + ((big q).length : Int) + 9223372036854775808) % 18446744073709551616 - 9223372036854775808) % 256 = _; omega)) (by have := big_le q; omega))) (by have := HQ.out; rw [HHD.out] at this; simp at this ⊢; omega) (by have := HF3.out.below.size; simp; omega) ?_
           intro V4 y4 hO hg hat
           have HF4 := Lib.hid ((HF3.out.next ((Below.refl _ _).alloc (Nat.le_refl _) _)).grow hO hg hat)
           have HD4 := Lib.hid (isB_grown HF3.out HD3.out ((Below.refl _ _).alloc (Nat.le_refl _) _) hg HNE.out)
           clear hO hg hat g1 g2 HF3 HD3 HNE
           have g1 := HF4.out.k1
           have g2 := HF4.out.k2)
        | (refine wpList_appB rfl (.tmp 44) (.tmp 45) rfl W.heap.size V4 (xs ++ [BitVec.ofNat 8 (183 + (big q).length)]) rfl HF4.out.own ad (digs 8 q).length cd (big q) rfl HD4.out (by have := HQ.out; rw [HHD.out] at this; simp at this ⊢; omega) HF4.out.below.size ?_
           intro Vh yh hO hg hat
           have HFh := Lib.hid (HF4.out.grow hO hg hat)
           rw [List.append_assoc, List.singleton_append, ← HHD.out] at HFh
           clear hO hg hat g1 g2 HF4
           have g1 := HFh.out.k1
           have g2 := HFh.out.k2)
        | (refine wpList_appB rfl (.tmp 47) (.tmp 49) rfl W.heap.size Vh (xs ++ head (sh false) q) rfl HFh.out.own a n c bs rfl (HBB.out.keep (keep_below HFh.out.below)) (by have := HQ.out; have := HQQ.out; simp; omega) HFh.out.below.size ?_
           intro Vb yb hO hg hat
           have HFb := Lib.hid (HFh.out.grow hO hg hat)
           clear hO hg hat g1 g2 HFh
           have g1 := HFb.out.k1
           have g2 := HFb.out.k2))
      clear g1
      go_wp2_with (fail)
      clear g2
      go_loopw [0, 54] (fun t i y => ∃ (j : Nat) (U : Value) (us : List Bt), j ≤ n' ∧ i = .int .i64 j ∧ t = U ∧ Hid (us ++ (k.drop j).form = xs ++ wrap false bs k.form ∧ Own y W.heap.size U us ∧ Below W.heap.size W y)) (fun _ i _ => n' - (intOf i).toNat)
      case atStart => exact ⟨0, Vb, _, Nat.zero_le _, rfl, rfl, Lib.hid ⟨by rw [Fo.drop_zero, HWR.out]; simp only [List.append_assoc], HFb.out.own, HFb.out.below⟩⟩
      case round =>
        obtain ⟨j, U, us, hj, rfl, rfl, hp⟩ := hrel
        clear HFb
        by_cases hlt : (j : Int) < (n' : Int)
        · obtain ⟨b, o, l1, bs1, k1, a1, n1, c1, a2, n2, c2, rfl, hd, hb1, hk1, G0, G1, G2⟩ := HK.out.at (show j < n' by omega)
          have g0 := keep_below hp.out.2.2 _ _ G0
          have g1 := keep_below hp.out.2.2 _ _ G1
          have g2 := keep_below hp.out.2.2 _ _ G2
          have hz : (us ++ wrap l1 bs1 k1.form) ++ (k.drop (j + 1)).form = xs ++ wrap false bs k.form := by
            have := hp.out.1; rw [hd, Fo.form_cons, ← List.append_assoc] at this; exact this
          have hlen : (us ++ wrap l1 bs1 k1.form).length ≤ 1048576 := by
            have h1 := HLL.out; rw [← hz, List.length_append] at h1; omega
          have HC := Lib.hid (HI.out _ _ us l1 n1 c1 n2 c2 a1 a2 bs1 k1 (Fo.drop_kid hd) (Fo.kid_right HR.out hd) hb1 hk1 (hp.out.2.2.alloc hp.out.2.2.size (.cells #[.bool l1, .slice a1 n1 c1, .slice a2 n2 c2] 25)) (hp.out.2.1.below ((Below.refl _ _).alloc (Nat.le_refl _) _)) hlen)
          have HZ := Lib.hid hz
          have HJ := Lib.hid (show j < n' ∧ wrap64 ((j : Int) + 1) = ((j + 1 : Nat) : Int) by
            refine ⟨by omega, ?_⟩
            have := HN.out; simp only [maxLen] at this; unfold wrap64; omega)
          clear hd hb1 hk1 hp hj hz hlen G0 G1 G2
          go_wp2_with (go_at_call 30; (with_reducible refine HC.out.mono ?_); rintro e y1 ⟨U1, rfl, hO, hb⟩; have H1 := Lib.hid (And.intro hO hb); clear hb hO HC g0 g1 g2 hlt)
          go_roundw
          case rel => exact ⟨j + 1, U1, _, HJ.out.1, by rw [HJ.out.2], rfl, Lib.hid ⟨HZ.out, H1.out.1, H1.out.2⟩⟩
          case measure => rw [HJ.out.2]; have := HJ.out.1; simp [intOf]; omega
        · go_wp2_with (fail)
          go_ret
          have e := hp.out.1
          rw [Fo.drop_end (by have := HK.out.1; omega)] at e
          have e2 : us = xs ++ wrap false bs k.form := by rw [← e]; exact (List.append_nil us).symm
          exact ⟨_, rfl, by rw [← e2]; exact hp.out.2.1, hp.out.2.2⟩
    | true =>
      have HHD : Hid (head (sh true) q = BitVec.ofNat 8 (247 + (big q).length) :: big q) := Lib.hid (by unfold head; rw [if_neg (by omega)]; rfl)
      go_enter Tryd.func30, Tryd.ntmps30
      go_upto_region 13 with (first
        | (go_at_call 42; (with_reducible refine HSI.out.mono ?_); rintro e y1 ⟨rfl, hb⟩; have HF1 := Lib.hid (HF0.out.next hb); have g0 := HF1.out.k0; have g1 := HF1.out.k1; have g2 := HF1.out.k2; clear hb HSI)
        | (go_at_call 41; (with_reducible refine (HCO.out _ HF1.out.below).mono ?_); rintro e y2 ⟨rfl, hb⟩; clear g0 g1 g2; have HF2 := Lib.hid (HF1.out.next hb); have g1 := HF2.out.k1; have g2 := HF2.out.k2; clear hb HCO HF1)
        | (go_at_call 25; rw [HW.out]; (with_reducible refine (HDG.out y2).mono ?_); rintro e y3 ⟨VD, rfl, hO, hb⟩; obtain ⟨ad, cd, rfl, hBd⟩ := hO.isB; clear g1 g2; have HF3 := Lib.hid (HF2.out.next hb); have HD3 := Lib.hid hBd; have HNE := Lib.hid (show ∀ x, ad = some x → V.ownBlock ≠ some x.block from fun x hx e => by have h1 := (hO.base (k := x.block) (by rw [hx]; rfl)).1; have h2 := (HF2.out.own.base e).2; omega); have g1 := HF3.out.k1; have g2 := HF3.out.k2; clear hb hO hBd HDG HF2)
        | (refine wpList_appB rfl (.tmp 36) (.tmp 42) rfl W.heap.size V xs rfl (HF3.out.next ((Below.refl _ _).alloc (Nat.le_refl _) _)).own (some ⟨y3.heap.size, 0, none⟩) 1 1 [BitVec.ofNat 8 (247 + (big q).length)] rfl (isB_one _ _ (bvb_of _ _ (by have := big_le q; first | rfl | (unfold wrap64; show ((247 + ((big q).length : Int) + 9223372036854775808) % 18446744073709551616 - 9223372036854775808) % 256 = _; omega)) (by have := big_le q; omega))) (by have := HQ.out; rw [HHD.out] at this; simp at this ⊢; omega) (by have := HF3.out.below.size; simp; omega) ?_
           intro V4 y4 hO hg hat
           have HF4 := Lib.hid ((HF3.out.next ((Below.refl _ _).alloc (Nat.le_refl _) _)).grow hO hg hat)
           have HD4 := Lib.hid (isB_grown HF3.out HD3.out ((Below.refl _ _).alloc (Nat.le_refl _) _) hg HNE.out)
           clear hO hg hat g1 g2 HF3 HD3 HNE
           have g1 := HF4.out.k1
           have g2 := HF4.out.k2)
        | (refine wpList_appB rfl (.tmp 44) (.tmp 45) rfl W.heap.size V4 (xs ++ [BitVec.ofNat 8 (247 + (big q).length)]) rfl HF4.out.own ad (digs 8 q).length cd (big q) rfl HD4.out (by have := HQ.out; rw [HHD.out] at this; simp at this ⊢; omega) HF4.out.below.size ?_
           intro Vh yh hO hg hat
           have HFh := Lib.hid (HF4.out.grow hO hg hat)
           rw [List.append_assoc, List.singleton_append, ← HHD.out] at HFh
           clear hO hg hat g1 g2 HF4
           have g1 := HFh.out.k1
           have g2 := HFh.out.k2)
        | (refine wpList_appB rfl (.tmp 47) (.tmp 49) rfl W.heap.size Vh (xs ++ head (sh true) q) rfl HFh.out.own a n c bs rfl (HBB.out.keep (keep_below HFh.out.below)) (by have := HQ.out; have := HQQ.out; simp; omega) HFh.out.below.size ?_
           intro Vb yb hO hg hat
           have HFb := Lib.hid (HFh.out.grow hO hg hat)
           clear hO hg hat g1 g2 HFh
           have g1 := HFb.out.k1
           have g2 := HFb.out.k2))
      clear g1
      go_wp2_with (fail)
      clear g2
      go_loopw [0, 54] (fun t i y => ∃ (j : Nat) (U : Value) (us : List Bt), j ≤ n' ∧ i = .int .i64 j ∧ t = U ∧ Hid (us ++ (k.drop j).form = xs ++ wrap true bs k.form ∧ Own y W.heap.size U us ∧ Below W.heap.size W y)) (fun _ i _ => n' - (intOf i).toNat)
      case atStart => exact ⟨0, Vb, _, Nat.zero_le _, rfl, rfl, Lib.hid ⟨by rw [Fo.drop_zero, HWR.out]; simp only [List.append_assoc], HFb.out.own, HFb.out.below⟩⟩
      case round =>
        obtain ⟨j, U, us, hj, rfl, rfl, hp⟩ := hrel
        clear HFb
        by_cases hlt : (j : Int) < (n' : Int)
        · obtain ⟨b, o, l1, bs1, k1, a1, n1, c1, a2, n2, c2, rfl, hd, hb1, hk1, G0, G1, G2⟩ := HK.out.at (show j < n' by omega)
          have g0 := keep_below hp.out.2.2 _ _ G0
          have g1 := keep_below hp.out.2.2 _ _ G1
          have g2 := keep_below hp.out.2.2 _ _ G2
          have hz : (us ++ wrap l1 bs1 k1.form) ++ (k.drop (j + 1)).form = xs ++ wrap true bs k.form := by
            have := hp.out.1; rw [hd, Fo.form_cons, ← List.append_assoc] at this; exact this
          have hlen : (us ++ wrap l1 bs1 k1.form).length ≤ 1048576 := by
            have h1 := HLL.out; rw [← hz, List.length_append] at h1; omega
          have HC := Lib.hid (HI.out _ _ us l1 n1 c1 n2 c2 a1 a2 bs1 k1 (Fo.drop_kid hd) (Fo.kid_right HR.out hd) hb1 hk1 (hp.out.2.2.alloc hp.out.2.2.size (.cells #[.bool l1, .slice a1 n1 c1, .slice a2 n2 c2] 25)) (hp.out.2.1.below ((Below.refl _ _).alloc (Nat.le_refl _) _)) hlen)
          have HZ := Lib.hid hz
          have HJ := Lib.hid (show j < n' ∧ wrap64 ((j : Int) + 1) = ((j + 1 : Nat) : Int) by
            refine ⟨by omega, ?_⟩
            have := HN.out; simp only [maxLen] at this; unfold wrap64; omega)
          clear hd hb1 hk1 hp hj hz hlen G0 G1 G2
          go_wp2_with (go_at_call 30; (with_reducible refine HC.out.mono ?_); rintro e y1 ⟨U1, rfl, hO, hb⟩; have H1 := Lib.hid (And.intro hO hb); clear hb hO HC g0 g1 g2 hlt)
          go_roundw
          case rel => exact ⟨j + 1, U1, _, HJ.out.1, by rw [HJ.out.2], rfl, Lib.hid ⟨HZ.out, H1.out.1, H1.out.2⟩⟩
          case measure => rw [HJ.out.2]; have := HJ.out.1; simp [intOf]; omega
        · go_wp2_with (fail)
          go_ret
          have e := hp.out.1
          rw [Fo.drop_end (by have := HK.out.1; omega)] at e
          have e2 : us = xs ++ wrap true bs k.form := by rw [← e]; exact (List.append_nil us).symm
          exact ⟨_, rfl, by rw [← e2]; exact hp.out.2.1, hp.out.2.2⟩
theorem form_walk (W w : World) (V : Value) (xs : List Bt) (l : Bool) (n c n' c' : Nat) (a a' : Option Addr) (bs : List Bt) (k : Fo) (hr : whole l bs.length k = true) (hB : IsB W a n c bs) (hK : IsK W a' n' c' k)
    (hb : Below W.heap.size W w) (ho : Own w W.heap.size V xs) (hl : (xs ++ wrap l bs k.form).length ≤ 1048576) :
    Calls Tryd.prog 30 #[V, .agg #[.bool l, .slice a n c, .slice a' n' c']] w fun e w' => ∃ V', e = .returned V' ∧ Own w' W.heap.size V' (xs ++ wrap l bs k.form) ∧ Below W.heap.size W w' := by
  generalize hz : k.size = z at *
  induction z using Nat.strongRecOn generalizing w V xs l n c n' c' a a' bs k with
  | _ z ih =>
    subst hz
    cases hs : single l bs with
    | false => exact form_many W w V xs l n c n' c' a a' bs k hs hr hB hK hb ho hl fun w V xs l n c n' c' a a' bs k1 h1 h2 h3 h4 h5 h6 h7 => ih k1.size h1 w V xs l n c n' c' a a' bs k1 h2 h3 h4 h5 h6 h7 rfl
    | true =>
      obtain ⟨rfl, x, rfl, hx⟩ := single_iff.1 hs
      have e : wrap false [x] k.form = [x] := by unfold wrap; rw [if_pos hs]
      rw [e] at hl ⊢
      rcases hB.2.2.2.2 with h0 | ⟨b, o, rfl, h6⟩
      · have := hB.1; rw [h0] at this; simp at this
      · obtain rfl : n = 1 := hB.1
        exact form_one W w V xs c n' c' b o a' x hx hb ho (by simpa using hl) (h6 0 x rfl)
end Rl
end Go.Proofs.YthlmjcochpodgaaDoor
namespace Go.Proofs.YthlmjcochpodgaaDoor
open Go.ChangeShapes Go.WideShapes Go.Deep Go.RowKit
set_option linter.unusedVariables false
set_option linter.unusedSimpArgs false
namespace Rl
def eN (k : Int) : Value := .iface 61 (.int .i64 k)
/-- What Encode's way is: 13 (deep), 3 (no item), 5 (too long), 0. -/
def encW (l : Bool) (bs : List Bt) (k : Fo) : Int := if dp k 16 then 13 else if whole l bs.length k then (if 4096 < (wrap l bs k.form).length then 5 else 0) else 3
set_option maxHeartbeats 4000000 in
set_option maxRecDepth 100000 in
theorem encode_walk (w : World) (l : Bool) (n c n' c' : Nat) (a a' : Option Addr) (bs : List Bt) (k : Fo) (hB : IsB w a n c bs) (hK : IsK w a' n' c' k) (hs : (wrap l bs k.form).length < B30) :
    Calls Tryd.prog 13 #[.agg #[.bool l, .slice a n c, .slice a' n' c']] w fun e w' => ∃ V, e = .returned (.tuple #[V, if encW l bs k = 0 then .nilIface else eN (encW l bs k)]) ∧ Own w' w.heap.size V (if encW l bs k = 0 then wrap l bs k.form else []) ∧ Below w.heap.size w w' := by
  have HB0 : Hid (Below w.heap.size w (w.alloc (.cells #[.bool l, .slice a n c, .slice a' n' c'] 25))) := Lib.hid ((Below.refl _ _).alloc (Nat.le_refl _) _)
  have HBB := Lib.hid hB
  have HK := Lib.hid hK
  have HS := Lib.hid hs
  have HEN : Hid (n = bs.length) := Lib.hid hB.1
  clear hB hK hs
  generalize hd : dp k 16 = D at *
  have HD := Lib.hid (deeper_walk 16 (by decide) (w.alloc (.cells #[.bool l, .slice a n c, .slice a' n' c'] 25)) l n c n' c' a a' k (HK.out.keep (keep_below HB0.out)))
  rw [hd, show ((16 : Nat) : Int) = 16 from rfl] at HD
  generalize hwh : whole l bs.length k = Wh at *
  have HE : Hid (∀ y, Below w.heap.size w y → Calls Tryd.prog 27 #[.agg #[.bool l, .slice a n c, .slice a' n' c'], .func (.func 28) #[] #[]] y fun e w' => e = .returned (.bool Wh) ∧ Below y.heap.size y w') := Lib.hid (fun y hy => by
    have := every_walk y l n c n' c' a a' k (HK.out.keep (keep_below hy))
    rw [HEN.out, hwh, ← HEN.out] at this; exact this)
  have HZ : Hid (∀ y, Wh = true → Below w.heap.size w y → Calls Tryd.prog 29 #[.agg #[.bool l, .slice a n c, .slice a' n' c']] y fun e w' => e = .returned (.int .i64 (wrap l bs k.form).length) ∧ Below y.heap.size y w') :=
    Lib.hid (fun y h hy => size_walk y l n c n' c' a a' bs k (HBB.out.keep (keep_below hy)) (HK.out.keep (keep_below hy)) HS.out (by rw [hwh]; exact h))
  have HEW : Hid (encW l bs k = if D then 13 else if Wh then (if 4096 < (wrap l bs k.form).length then 5 else 0) else 3) := Lib.hid (by unfold encW; rw [hd, hwh])
  have HWH := Lib.hid hwh
  clear hd hwh
  generalize hL : (wrap l bs k.form).length = L at *
  have HL := Lib.hid hL
  clear hL
  generalize encW l bs k = E at *
  generalize her : (if E = 0 then Value.nilIface else eN E) = er at *
  generalize hzs : (if E = 0 then wrap l bs k.form else []) = zs at *
  have HER := Lib.hid her
  have HZS := Lib.hid hzs
  clear her hzs
  go_enter Tryd.func13, Tryd.ntmps13
  go_upto_region 9 with (first
    | (go_at_call 26; (with_reducible refine HD.out.mono ?_); rintro e y1 ⟨rfl, hb⟩; have H1 := Lib.hid (bl HB0.out hb); have g0 := keep1 hb (o := 0) (b := w.heap.size) (x := .bool l) (by simp); have g1 := keep1 hb (o := 1) (b := w.heap.size) (x := .slice a n c) (by simp); have g2 := keep1 hb (o := 2) (b := w.heap.size) (x := .slice a' n' c') (by simp); clear hb HD)
    | (go_at_call 27; (with_reducible refine (HE.out _ H1.out).mono ?_); rintro e y2 ⟨rfl, hb⟩; have H2 := Lib.hid (bl H1.out hb); have g0 := keep1 hb g0; have g1 := keep1 hb g1; have g2 := keep1 hb g2; clear hb HE)
    | (go_at_call 29; (with_reducible refine (HZ.out _ (by simpa using ‹(!Wh) = false›) H2.out).mono ?_); rintro e y3 ⟨rfl, hb⟩; have H3 := Lib.hid (bl H2.out hb); have g0 := keep1 hb g0; have g1 := keep1 hb g1; have g2 := keep1 hb g2; clear hb HZ))
  · go_ret2
    have e : E = 13 := by rw [HEW.out, if_pos ‹D = true›]
    refine ⟨.slice none 0 0, ?_, ?_, H1.out⟩
    · rw [← HER.out, e]; rfl
    · rw [← HZS.out, e, if_neg (by decide)]; exact Own.nil _ _
  · go_ret2
    have e : E = 3 := by rw [HEW.out, if_neg (by rw [‹D = false›]; decide), if_neg (by intro h; have h2 := ‹(!Wh) = true›; rw [h] at h2; cases h2)]
    refine ⟨.slice none 0 0, ?_, ?_, H2.out⟩
    · rw [← HER.out, e]; rfl
    · rw [← HZS.out, e, if_neg (by decide)]; exact Own.nil _ _
  · go_ret2
    have e : E = 5 := by rw [HEW.out, if_neg (by rw [‹D = false›]; decide), if_pos (by simpa using ‹(!Wh) = false›), if_pos (by omega)]
    refine ⟨.slice none 0 0, ?_, ?_, H3.out⟩
    · rw [← HER.out, e]; rfl
    · rw [← HZS.out, e, if_neg (by decide)]; exact Own.nil _ _
  · have e : E = 0 := by rw [HEW.out, if_neg (by rw [‹D = false›]; decide), if_pos (by simpa using ‹(!Wh) = false›), if_neg (by omega)]
    have HZ0 : Hid (zs = wrap l bs k.form) := Lib.hid (by rw [← HZS.out, e, if_pos rfl])
    have HE0 : Hid (er = .nilIface) := Lib.hid (by rw [← HER.out, e, if_pos rfl])
    have HFm : Hid (∀ y V, Below w.heap.size w y → Own y w.heap.size V [] → Calls Tryd.prog 30 #[V, .agg #[.bool l, .slice a n c, .slice a' n' c']] y fun e w' => ∃ V', e = .returned V' ∧ Own w' w.heap.size V' zs ∧ Below w.heap.size w w') :=
      Lib.hid (fun y V hy ho => by
        have := form_walk w y V [] l n c n' c' a a' bs k (by rw [HWH.out]; simpa using ‹(!Wh) = false›) HBB.out HK.out hy ho (by rw [List.nil_append, HL.out]; omega)
        rw [List.nil_append, ← HZ0.out] at this; exact this)
    obtain ⟨zc, hzc, hmk⟩ : ∃ zc : Array Value, zc.size = L * 1 ∧ ∀ y : World, (Instr.makeSlice 22 (.int .i64 0) (.int .i64 (L : Int))).run Tryd.prog y = .ok (.slice (some ⟨y.heap.size, 0, none⟩) 0 L) (y.alloc (.cells zc 5)) := by
      obtain ⟨i, hi1, hi2, hi3, hi4⟩ := one1
      refine ⟨madeCells (Value.int .u8 0).cells (((L : Int)).toNat * i.size), by rw [size_madeCells, hi3]; simp, fun y => ?_⟩
      have := run_makeSlice (P := Tryd.prog) y 22 5 i (.int .u8 0) und22 hi1 hi2 .i64 .i64 0 (L : Int) (by omega) (by omega) (by rw [hi3]; omega) (by rw [hi4]; omega) (by omega)
      simpa using this
    have HLL : Hid (L ≤ 4096) := Lib.hid (by omega)
    have HZC := Lib.hid hzc
    have HOW : Hid (∀ y : World, Below w.heap.size w y → Own (y.alloc (.cells zc 5)) w.heap.size (.slice (some ⟨y.heap.size, 0, none⟩) 0 L) []) := Lib.hid (fun y hy => World.ownsRow_made y zc L hy.size (by have := HLL.out; unfold maxLen; omega) HZC.out)
    have k0 := keep1 ((Below.refl y3.heap.size y3).alloc (Nat.le_refl _) (.cells zc 5)) ‹y3.cell? ⟨w.heap.size, 0, none⟩ = _›
    have k1 := keep1 ((Below.refl y3.heap.size y3).alloc (Nat.le_refl _) (.cells zc 5)) ‹y3.cell? ⟨w.heap.size, 1, none⟩ = _›
    have k2 := keep1 ((Below.refl y3.heap.size y3).alloc (Nat.le_refl _) (.cells zc 5)) ‹y3.cell? ⟨w.heap.size, 2, none⟩ = _›
    clear HZS HER HEW HWH HL HS HB0 HBB HK HEN H1 H2 HZ0 e hzc HZC
    have HCALL := Lib.hid (HFm.out ((y3.alloc (.cells zc 5)).drew) (.slice (some ⟨y3.heap.size, 0, none⟩) 0 L) ((H3.out.alloc H3.out.size _).drew) (HOW.out y3 H3.out).drew)
    clear HFm HOW
    go_region_with ((with_reducible refine HCALL.out.mono ?_); rintro e y4 ⟨V4, rfl, hO, hb⟩; have H4 := Lib.hid (And.intro hO hb); clear hO hb HCALL)
    all_goals go_wp2_with (fail)
    all_goals go_ret2
    all_goals exact ⟨V4, by rw [HE0.out]; rfl, H4.out.1, H4.out.2⟩
end Rl
end Go.Proofs.YthlmjcochpodgaaDoor
namespace Go.Proofs.YthlmjcochpodgaaDoor
open Go.ChangeShapes Go.WideShapes Go.Deep Go.RowKit
set_option linter.unusedVariables false
set_option linter.unusedSimpArgs false
namespace Rl
theorem num_take (bs : List Bt) (j : Nat) (h : j < bs.length) : num 0 (bs.take (j + 1)) = num 0 (bs.take j) * 256 + (bs.getD j 0#8).toNat := by
  rw [List.take_add_one, List.getElem?_eq_getElem h, num_app, List.getD_eq_getElem?_getD, List.getElem?_eq_getElem h]
  rfl
theorem or_u64 (v x : Nat) (hv : v * 256 < 18446744073709551616) (hx : x < 256) : bits BinOp.or IntKind.u64 (IntKind.u64.wrap ((v : Int) * 256)) (IntKind.u64.wrap (x : Int)) = ((v * 256 + x : Nat) : Int) := by
  have e1 : IntKind.u64.wrap ((v : Int) * 256) = ((v * 256 : Nat) : Int) := by show ((v : Int) * 256) % 18446744073709551616 = _; omega
  have e2 : IntKind.u64.wrap (x : Int) = ((x : Nat) : Int) := by show (x : Int) % 18446744073709551616 = _; omega
  rw [e1, e2, bits_or_u64_nat _ _ hv (by omega)]
  have := Nat.two_pow_add_eq_or_of_lt (i := 8) (b := x) (by omega) v
  rw [Nat.mul_comm v 256]
  have e3 : 2 ^ 8 = 256 := rfl
  rw [e3] at this
  rw [← this]
theorem num_lt (bs : List Bt) (j : Nat) (h : j ≤ 7) : num 0 (bs.take j) * 256 < 18446744073709551616 := by
  have h1 := num_bound (bs.take j) 0
  have h2 : (bs.take j).length ≤ 7 := by simp; omega
  have h3 : 256 ^ (bs.take j).length ≤ 256 ^ 7 := Nat.pow_le_pow_right (by decide) h2
  have h4 : (256 : Nat) ^ 7 = 72057594037927936 := rfl
  omega
set_option maxHeartbeats 2000000 in
set_option maxRecDepth 100000 in
theorem number_walk (w : World) (a : Option Addr) (n c : Nat) (bs : List Bt) (hB : IsB w a n c bs) (h8 : n ≤ 8) :
    Calls Tryd.prog 40 #[.slice a n c] w fun e w' => e = .returned (.int .u64 (num 0 bs)) ∧ w' = w := by
  have HB := Lib.hid hB
  have H8 := Lib.hid h8
  clear hB h8
  go_enter Tryd.func40, Tryd.ntmps40
  go_wp2_with (fail)
  go_loopw [3, 8] (fun t i y => ∃ j : Nat, j ≤ n ∧ i = .int .i64 j ∧ t = .int .u64 (num 0 (bs.take j)) ∧ y = w) (fun _ i _ => n - (intOf i).toNat)
  case atStart => exact ⟨0, Nat.zero_le _, rfl, rfl, rfl⟩
  case round =>
    obtain ⟨j, hj, rfl, rfl, rfl⟩ := hrel
    by_cases hlt : (j : Int) < (n : Int)
    · obtain ⟨b, o, rfl, hcell⟩ : ∃ b o, a = some ⟨b, o, none⟩ ∧ wr.cell? ⟨b, o + j, none⟩ = some (.int .u8 ((bs.getD j 0#8).toNat : Int)) := by
        obtain ⟨h1, h2, h3, h4, h5⟩ := HB.out
        rcases h5 with h5 | ⟨b, o, e, h6⟩
        · omega
        · refine ⟨b, o, e, ?_⟩
          have := h6 j (bs.getD j 0#8) (by rw [List.getElem?_eq_getElem (by omega), List.getD_eq_getElem?_getD, List.getElem?_eq_getElem (by omega)]; rfl)
          exact this
      generalize hx : (bs.getD j 0#8).toNat = X at *
      generalize hv : num 0 (bs.take j) = Vn at *
      have HX := Lib.hid hx
      have HV := Lib.hid hv
      clear hx hv
      have HJ := Lib.hid (show j < n ∧ wrap64 ((j : Int) + 1) = ((j + 1 : Nat) : Int) by
        refine ⟨by omega, ?_⟩
        have := H8.out; unfold wrap64; omega)
      have HO := Lib.hid (show bits BinOp.or IntKind.u64 (IntKind.u64.wrap ((Vn : Int) * 256)) (IntKind.u64.wrap (X : Int)) = (num 0 (bs.take (j + 1)) : Int) by
        rw [num_take bs j (by have := HB.out.1; omega), HX.out, HV.out]
        refine or_u64 Vn X ?_ ?_
        · rw [← HV.out]; exact num_lt bs j (by have := H8.out; omega)
        · rw [← HX.out]; exact BitVec.isLt _)
      clear hj
      go_wp2_with (fail)
      go_roundw
      case rel => exact ⟨j + 1, HJ.out.1, by rw [HJ.out.2], by rw [HO.out], trivial⟩
      case measure => rw [HJ.out.2]; have := HJ.out.1; simp [intOf]; omega
    · go_wp2_with (fail)
      go_ret
      have e : j = n := by omega
      refine ⟨?_, rfl⟩
      rw [e, HB.out.1, List.take_length]
      rfl
set_option maxHeartbeats 2000000 in
set_option maxRecDepth 100000 in
theorem Number_walk (w : World) (v : Nat) (hv : v < 18446744073709551616) :
    Calls Tryd.prog 12 #[.int .u64 v] w fun e w' => ∃ a c, e = .returned (.agg #[.bool false, .slice a (big v).length c, .slice none 0 0]) ∧ IsB w' a (big v).length c (big v) ∧ Below w.heap.size w w' := by
  have HD := Lib.hid (digits_walk 8 v (by decide) hv (w.alloc (.cells #[.bool false, .slice none 0 0, .slice none 0 0] 25)))
  have HB : Hid (Below w.heap.size w (w.alloc (.cells #[.bool false, .slice none 0 0, .slice none 0 0] 25))) := Lib.hid ((Below.refl _ _).alloc (Nat.le_refl _) _)
  clear hv
  go_enter Tryd.func12, Tryd.ntmps12
  go_wp2_with (go_at_call 25; (with_reducible refine HD.out.mono ?_); rintro e y1 ⟨V, rfl, hO, hb⟩; obtain ⟨a1, c1, rfl, hB1⟩ := hO.isB; have HO := Lib.hid hO; have HL1 := Lib.hid (bl HB.out hb); have g0 := keep1 hb (o := 0) (b := w.heap.size) (x := .bool false) (by simp); have g1 := keep1 hb (o := 1) (b := w.heap.size) (x := .slice none 0 0) (by simp); have g2 := keep1 hb (o := 2) (b := w.heap.size) (x := .slice none 0 0) (by simp); have f0 := keepF hb (b := w.heap.size) (o := 0) (by simp) (by simp); have f1 := keepF hb (b := w.heap.size) (o := 1) (by simp) (by simp); have f2 := keepF hb (b := w.heap.size) (o := 2) (by simp) (by simp); clear hb hO hB1 HD)
  have ho : Own (((y1.setCell ⟨w.heap.size, 0, none⟩ (.bool false)).setCell ⟨w.heap.size, 1, none⟩ (.slice a1 (digs 8 v).length c1)).setCell ⟨w.heap.size, 2, none⟩ (.slice none 0 0)) (w.alloc (.cells #[.bool false, .slice none 0 0, .slice none 0 0] 25)).heap.size (.slice a1 (digs 8 v).length c1) (digs 8 v) :=
    ownsRow_setCell_below (ownsRow_setCell_below (ownsRow_setCell_below HO.out (by simp) _) (by simp) _) (by simp) _
  obtain ⟨a2, c2, e2, hB2⟩ := ho.isB
  injection e2 with e3 _ e4
  subst e3 e4
  refine bodyPost_ret (v := .agg #[.bool false, .slice a1 (digs 8 v).length c1, .slice none 0 0]) (by simp [results, Tryd.results12, go_sem, g0, g1, g2]) rfl ⟨a1, c1, rfl, hB2, ((HL1.out.setCell (Nat.le_refl _) _).setCell (Nat.le_refl _) _).setCell (Nat.le_refl _) _⟩
end Rl
end Go.Proofs.YthlmjcochpodgaaDoor
