/-
  mootref04: Unbatch. Own work.
-/
import Derived.Test.YtkhdamjjbjmeaaaDoorVg
namespace Go.Proofs.YtkhdamjjbjmeaaaDoor
open Go.ChangeShapes Go.WideShapes Go.Deep Go.RowKit
set_option linter.unusedVariables false
set_option linter.unusedSimpArgs false
namespace Rl
theorem txd_zero {bs : List Bt} (h : rK (txd bs) = 0) : ∃ f, txd bs = .ok f := by
  cases hT : txd bs with
  | ok f => exact ⟨f, rfl⟩
  | num k =>
    rw [hT] at h
    unfold txd at hT
    split at hT
    · cases hT
    · split at hT
      · unfold txd' at hT; split at hT <;> cases hT
      · injection hT with hT; subst hT; exact absurd h (by decide)
  | flt p k =>
    rw [hT] at h
    have h : k = 0 := h
    unfold txd at hT
    split at hT
    · rename_i hd
      injection hT with _ hk
      subst hk
      exact absurd h (dec_ne hd)
    · split at hT
      · unfold txd' at hT
        split at hT
        · rename_i i hi
          injection hT with _ hk
          have h2 := List.find?_some hi
          rw [hk, h] at h2
          simp at h2
        · cases hT
      · cases hT
/-- The reference's Unbatch. -/
def ruOut (B : Nat) (w : World) : UnR → Ending → Prop
  | .flt p k, e => e = .returned (.tuple #[.slice none 0 0, .slice none 0 0, .int .i64 p, .int .i64 k])
  | .num k, e => e = .returned (.tuple #[.slice none 0 0, .slice none 0 0, .int .i64 (-1), .int .i64 k])
  | .ok G D, e => ∃ V1 V2, e = .returned (.tuple #[V1, V2, .int .i64 (-1), .int .i64 0]) ∧ RowT w B V1 G ∧ RowN w B V2 D
/-- What its loop keeps. -/
structure Unr (w : World) (B2 q6 : Nat) (s1 : Value) (a' : Option Addr) (n' c' : Nat) (k : Fo) (V1 V2 : Value) (G : List (Nat → Nat)) (D : List Nat) (y : World) : Prop where
  u : Unb w B2 q6 s1 a' n' c' k V1 V2 G D y
  box : Box3 y q6 (.bool true) s1 (.slice a' n' c')
  hq : q6 < B2
section
variable {w : World} {B2 q6 : Nat} {s1 : Value} {a' : Option Addr} {n' c' : Nat} {k : Fo} {V1 V2 V' : Value} {G : List (Nat → Nat)} {D : List Nat} {y y' : World}
theorem Unr.next (h : Unr w B2 q6 s1 a' n' c' k V1 V2 G D y) (hb : Below y.heap.size y y') : Unr w B2 q6 s1 a' n' c' k V1 V2 G D y' := ⟨h.u.next hb, h.box.keep hb, h.hq⟩
theorem Unr.putT {f : Nat → Nat} (h : Unr w B2 q6 s1 a' n' c' k V1 V2 G D y) (hg : y.grownBy y' V1.ownBlock) (hat : ∀ k, V'.ownBlock = some k → V1.ownBlock = some k ∨ k = y.heap.size) (hr : RowT y' B2 V' (G ++ [f])) : Unr w B2 q6 s1 a' n' c' k V' V2 (G ++ [f]) D y' :=
  ⟨h.u.putT hg hat hr, h.box.grown hg (fun e => by have := (h.u.t.base e).1; have := h.hq; omega), h.hq⟩
theorem Unr.putN {f : Nat} (h : Unr w B2 q6 s1 a' n' c' k V1 V2 G D y) (hg : y.grownBy y' V2.ownBlock) (hat : ∀ k, V'.ownBlock = some k → V2.ownBlock = some k ∨ k = y.heap.size) (hr : RowN y' B2 V' (D ++ [f])) : Unr w B2 q6 s1 a' n' c' k V1 V' G (D ++ [f]) y' :=
  ⟨h.u.putN hg hat hr, h.box.grown hg (fun e => by have := (h.u.n.base e).1; have := h.hq; omega), h.hq⟩
end
set_option maxHeartbeats 2000000 in
set_option maxRecDepth 100000 in
theorem txRUnbatch_none (w : World) (a : Option Addr) (n c : Nat) (bs : List Bt) (hB : IsB w a n c bs) (hno : ∀ G D, unb bs ≠ .ok G D) :
    Calls Tryd.prog 21 #[.slice a n c] w fun r w' => ruOut w.heap.size w' (unb bs) r ∧ Below w.heap.size w w' := by
  have HD := Lib.hid (rdecode_walk w a n c bs hB)
  clear hB
  cases hD : dec bs with
  | bad p k =>
    have e : unb bs = .flt p k := by unfold unb; rw [hD]
    have hk : (k != 0) = true := by simpa using dec_ne hD
    rw [hD] at HD
    rw [e]
    clear hno e hD
    go_enter Tryd.func21, Tryd.ntmps21
    go_wp2_with (go_at_call 39; (with_reducible refine HD.out.mono ?_); rintro e y1 ⟨he, hb⟩; obtain rfl : e = _ := he
                 have HBL := Lib.hid (bl hb (ba y1 (.cells #[.bool false, .slice none 0 0, .slice none 0 0] 79)))
                 unfold zIt
                 clear hb HD)
    exact bodyPost_ret (v := .tuple #[.slice none 0 0, .slice none 0 0, .int .i64 p, .int .i64 k]) (by simp [results, Tryd.results21, go_sem]) rfl ⟨rfl, HBL.out⟩
  | ok l x k j =>
    rw [hD] at HD
    cases l with
    | false =>
      have e : unb bs = .num 3 := by unfold unb; rw [hD]; rfl
      rw [e]
      clear hno e hD
      go_enter Tryd.func21, Tryd.ntmps21
      go_wp2_with (go_at_call 39; (with_reducible refine HD.out.mono ?_); rintro e y1 ⟨⟨a3, n3, c3, a4, n4, c4, rfl, hB3, hK3⟩, hb⟩
                   have HBL := Lib.hid (bl hb (ba y1 (.cells #[.bool false, .slice a3 n3 c3, .slice a4 n4 c4] 79)))
                   clear hb HD hB3 hK3)
      exact bodyPost_ret (v := .tuple #[.slice none 0 0, .slice none 0 0, .int .i64 (-1), .int .i64 3]) (by simp [results, Tryd.results21, go_sem]) rfl ⟨rfl, HBL.out⟩
    | true =>
      have h8 : ¬ k.len ≤ 8 := fun h => hno _ _ (by unfold unb; rw [hD]; exact if_pos h)
      have e : unb bs = .num 5 := by unfold unb; rw [hD]; exact if_neg h8
      rw [e]
      have HK8 := Lib.hid h8
      clear hno e hD h8
      go_enter Tryd.func21, Tryd.ntmps21
      go_wp2_with (go_at_call 39; (with_reducible refine HD.out.mono ?_); rintro e y1 ⟨⟨a3, n3, c3, a4, n4, c4, rfl, hB3, hK3⟩, hb⟩
                   have HBL := Lib.hid (bl hb (ba y1 (.cells #[.bool true, .slice a3 n3 c3, .slice a4 n4 c4] 79)))
                   have h9 : (8 : Int) < n4 := by have := hK3.1; have := HK8.out; omega
                   clear hb HD hB3 hK3)
      exact bodyPost_ret (v := .tuple #[.slice none 0 0, .slice none 0 0, .int .i64 (-1), .int .i64 5]) (by simp [results, Tryd.results21, go_sem]) rfl ⟨rfl, HBL.out⟩
set_option maxHeartbeats 4000000 in
set_option maxRecDepth 100000 in
theorem txRUnbatch_ok (w : World) (a : Option Addr) (n c : Nat) (bs : List Bt) (hB : IsB w a n c bs) (x : List Bt) (k : Fo) (jj : Nat) (hD : dec bs = .ok true x k jj) (h8 : k.len ≤ 8) :
    Calls Tryd.prog 21 #[.slice a n c] w fun r w' => ruOut w.heap.size w' (.ok (gds k) (bds 0 k)) r ∧ Below w.heap.size w w' := by
  have HD := Lib.hid (rdecode_walk w a n c bs hB)
  rw [hD] at HD
  have H8 := Lib.hid h8
  clear hB hD h8
  go_enter Tryd.func21, Tryd.ntmps21
  go_wp2_with (go_at_call 39; (with_reducible refine HD.out.mono ?_); rintro e y1 ⟨⟨a3, n3, c3, a4, N4, c4, rfl, hB3, hK3⟩, hb⟩
               have h9 : ¬ (8 : Int) < N4 := by have := hK3.1; have := H8.out; omega
               have hba := ba y1 (.cells #[.bool true, .slice a3 n3 c3, .slice a4 N4 c4] 79)
               have HU : Hid (Unr w (y1.heap.size + 1) y1.heap.size (.slice a3 n3 c3) a4 N4 c4 k (.slice none 0 0) (.slice none 0 0) [] [] (y1.alloc (.cells #[.bool true, .slice a3 n3 c3, .slice a4 N4 c4] 79))) := Lib.hid
                 ⟨⟨bl hb hba, hK3.keep (keep_see fun b o v g1 g2 => ⟨by have := inHeap g2; omega, keep1 hba g2⟩), rowT_nil _ _, rowN_nil _ _, fun b hb' e => (by cases hb'), by have := hb.size; omega, by simp⟩, Box3.new y1 _ _ _ _, Nat.lt_succ_self _⟩
               have HN := Lib.hid hK3.1
               clear hb HD hB3 hK3 hba)
  clear h9
  generalize y1.alloc (.cells #[.bool true, .slice a3 n3 c3, .slice a4 N4 c4] 79) = y0 at *
  go_loopw [9, 10, 11] (fun V1 V2 i y => ∃ (j : Nat) (G : List (Nat → Nat)) (D : List Nat), i = .int .i64 j ∧ Hid (j ≤ N4 ∧ G ++ gds (k.drop j) = gds k ∧ D ++ bds j (k.drop j) = bds 0 k ∧ G.length ≤ j ∧ D.length ≤ j ∧ Unr w (y1.heap.size + 1) y1.heap.size (.slice a3 n3 c3) a4 N4 c4 k V1 V2 G D y)) (fun _ _ i _ => N4 - (intOf i).toNat)
  case atStart => exact ⟨0, [], [], rfl, Lib.hid ⟨Nat.zero_le _, by rw [Fo.drop_zero]; rfl, by rw [Fo.drop_zero]; rfl, Nat.le_refl _, Nat.le_refl _, HU.out⟩⟩
  case round =>
    obtain ⟨j, G, D, rfl, hp⟩ := hrel
    clear HU
    have HL := Lib.hid hp.out.2.2.2.2.2
    obtain ⟨x0, x1, x2, _, _, _⟩ := HL.out.box
    by_cases hlt : (j : Int) < N4
    · obtain ⟨b, o, l1, bs1, k1, a1, n1, c1, a2, n2, c2, rfl, hdr, hb1, hk1, G0, G1, G2⟩ := (HL.out.u.kids.keep (see_keep _ _)).at (show j < N4 by omega)
      have HJ := Lib.hid (show j < N4 ∧ wrap64 ((j : Int) + 1) = ((j + 1 : Nat) : Int) ∧ j < 8 ∧ G.length ≤ j ∧ D.length ≤ j by have h1 := HN.out; have h2 := H8.out; have h3 := hp.out; refine ⟨by omega, by unfold wrap64; omega, by omega, h3.2.2.2.1, h3.2.2.2.2.1⟩)
      have hg := gds_at hdr
      have HG := Lib.hid (show G ++ ((isTx l1 bs1).toList ++ gds (k.drop (j + 1))) = gds k ∧ D ++ ((if (isTx l1 bs1).isSome then [] else [j]) ++ bds (j + 1) (k.drop (j + 1))) = bds 0 k by rw [← hg.1, ← hg.2]; exact ⟨hp.out.2.1, hp.out.2.2.1⟩)
      have HDC := Lib.hid (txRDecode_is wr a1 n1 c1 bs1 hb1)
      have HIT := Lib.hid (show (rK (txd bs1) = 0 ∧ ∃ f, txd bs1 = .ok f) ∨ ((rK (txd bs1) != 0) = true ∧ isTx l1 bs1 = none) by
        by_cases h : rK (txd bs1) = 0
        · exact .inl ⟨h, txd_zero h⟩
        · refine .inr ⟨by simpa using h, ?_⟩
          unfold isTx
          cases hT : txd bs1 with
          | ok f => rw [hT] at h; exact absurd rfl h
          | flt p k => simp
          | num k => simp)
      clear hp hdr hb1 hk1 hg
      generalize rK (txd bs1) = K at *
      go_upto_region 14 with (go_at_call 15; (with_reducible refine HDC.out.mono ?_); rintro e y2 ⟨rfl, hb⟩
                              have hbb := bl hb (ba y2 (txo (rF (txd bs1))))
                              have HL3 := Lib.hid (HL.out.next hbb)
                              have HG0 := Lib.hid (keep1 hbb G0)
                              have C3 := Lib.hid (txo_at y2 (rF (txd bs1)))
                              clear hb hbb HDC)
      clear G0 G1 G2 x0 x1 x2
      generalize y2.alloc (txo (rF (txd bs1))) = y3 at *
      have G0 := HG0.out
      obtain ⟨x0, x1, x2, _, _, _⟩ := HL3.out.box
      rcases HIT.out with ⟨rfl, f, hf⟩ | ⟨hK, hno⟩
      · cases l1 with
        | true =>
          have HNT := Lib.hid (show isTx true bs1 = none from rfl)
          clear hf
          go_wp2_with (refine wpList_appN rfl (.tmp 60) (.tmp 62) rfl (y1.heap.size + 1) u10 D rfl (HL3.out.next (ba y3 (.cells #[.int .i64 j] 3))).u.n (HL3.out.next (ba y3 (.cells #[.int .i64 j] 3))).u.h3 ⟨y3.heap.size, 0, none⟩ 1 j rfl (by rw [add_at]; simp) (by have := HJ.out; omega) ?_
                       intro V5 y5 hr hg hat
                       have HL5 := Lib.hid ((HL3.out.next (ba y3 (.cells #[.int .i64 j] 3))).putN hg hat hr)
                       clear hr hg hat)
          try rw [HJ.out.2.1]
          go_roundw
          case rel => exact ⟨j + 1, G, D ++ [j], rfl, Lib.hid ⟨HJ.out.1, by rw [← HG.out.1, HNT.out]; simp, by rw [← HG.out.2, HNT.out, List.append_assoc]; rfl, by have := HJ.out; omega, by rw [List.length_append]; have := HJ.out; simp; omega, HL5.out⟩⟩
          case measure => have := HJ.out.1; show N4 - (j + 1) < N4 - j; omega
        | false =>
          have HNT := Lib.hid (show isTx false bs1 = some f by unfold isTx; rw [hf]; rfl)
          have HF := Lib.hid (show rF (txd bs1) = f by rw [hf]; rfl)
          clear hf
          rw [HF.out] at C3
          have z0 := C3.out 0 (by decide)
          have z1 := C3.out 1 (by decide)
          have z2 := C3.out 2 (by decide)
          have z3 := C3.out 3 (by decide)
          have z4 := C3.out 4 (by decide)
          have z5 := C3.out 5 (by decide)
          go_wp2_with (refine wpList_appT rfl (.tmp 64) (.tmp 66) rfl (y1.heap.size + 1) u9 G rfl (HL3.out.next (ba y3 (txo f))).u.t (HL3.out.next (ba y3 (txo f))).u.h3 ⟨y3.heap.size, 0, none⟩ 1 f rfl (t6_new y3 f _) (by have := HJ.out; omega) ?_
                       intro V5 y5 hr hg hat
                       have HL5 := Lib.hid ((HL3.out.next (ba y3 (txo f))).putT hg hat hr)
                       clear hr hg hat)
          try rw [HJ.out.2.1]
          go_roundw
          case rel => exact ⟨j + 1, G ++ [f], D, rfl, Lib.hid ⟨HJ.out.1, by rw [← HG.out.1, HNT.out, List.append_assoc]; rfl, by rw [← HG.out.2, HNT.out]; rfl, by rw [List.length_append]; have := HJ.out; simp; omega, by have := HJ.out; omega, HL5.out⟩⟩
          case measure => have := HJ.out.1; show N4 - (j + 1) < N4 - j; omega
      · have HNT := Lib.hid hno
        clear hno
        go_wp2_with (refine wpList_appN rfl (.tmp 60) (.tmp 62) rfl (y1.heap.size + 1) u10 D rfl (HL3.out.next (ba y3 (.cells #[.int .i64 j] 3))).u.n (HL3.out.next (ba y3 (.cells #[.int .i64 j] 3))).u.h3 ⟨y3.heap.size, 0, none⟩ 1 j rfl (by rw [add_at]; simp) (by have := HJ.out; omega) ?_
                     intro V5 y5 hr hg hat
                     have HL5 := Lib.hid ((HL3.out.next (ba y3 (.cells #[.int .i64 j] 3))).putN hg hat hr)
                     clear hr hg hat)
        try rw [HJ.out.2.1]
        go_roundw
        case rel => exact ⟨j + 1, G, D ++ [j], rfl, Lib.hid ⟨HJ.out.1, by rw [← HG.out.1, HNT.out]; simp, by rw [← HG.out.2, HNT.out, List.append_assoc]; rfl, by have := HJ.out; omega, by rw [List.length_append]; have := HJ.out; simp; omega, HL5.out⟩⟩
        case measure => have := HJ.out.1; show N4 - (j + 1) < N4 - j; omega
    · obtain rfl : j = N4 := by have := hp.out.1; omega
      have hG := hp.out.2.1
      have hDD := hp.out.2.2.1
      rw [Fo.drop_end (by have := HN.out; omega)] at hG hDD
      have HF := Lib.hid (show G = gds k ∧ D = bds 0 k from ⟨by simpa [gds] using hG, by simpa [bds] using hDD⟩)
      clear hp hG hDD
      go_wp2_with (fail)
      refine bodyPost_ret (v := .tuple #[u9, u10, .int .i64 (-1), .int .i64 0]) (by simp [results, Tryd.results21, go_sem]) rfl ⟨?_, HL.out.u.below⟩
      have ht := HL.out.u.t
      have hn := HL.out.u.n
      rw [HF.out.1] at ht
      rw [HF.out.2] at hn
      exact ⟨u9, u10, rfl, ownsRow_base ht HL.out.u.h2, ownsRow_base hn HL.out.u.h2⟩
theorem txRUnbatch_walk (w : World) (a : Option Addr) (n c : Nat) (bs : List Bt) (hB : IsB w a n c bs) :
    Calls Tryd.prog 21 #[.slice a n c] w fun r w' => ruOut w.heap.size w' (unb bs) r ∧ Below w.heap.size w w' := by
  by_cases h : ∃ x k j, dec bs = .ok true x k j ∧ k.len ≤ 8
  · obtain ⟨x, k, j, hD, h8⟩ := h
    have e : unb bs = .ok (gds k) (bds 0 k) := by unfold unb; rw [hD]; exact if_pos h8
    rw [e]
    exact txRUnbatch_ok w a n c bs hB x k j hD h8
  · refine txRUnbatch_none w a n c bs hB fun G D hU => ?_
    unfold unb at hU
    split at hU
    · cases hU
    · rename_i l x k j hD
      split at hU
      · rename_i hl
        split at hU
        · rename_i h8; exact h ⟨x, k, j, by rw [hD, hl], h8⟩
        · cases hU
      · cases hU
end Rl
end Go.Proofs.YtkhdamjjbjmeaaaDoor
