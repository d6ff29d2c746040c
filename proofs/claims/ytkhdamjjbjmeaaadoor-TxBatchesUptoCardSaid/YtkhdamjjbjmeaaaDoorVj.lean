/-
  mootlaw04.ints; TxBatches. Own work.
-/
import Derived.Test.YtkhdamjjbjmeaaaDoorVh
import Derived.Test.YtkhdamjjbjmeaaaDoorVi
import Derived.Test.YtkhdamjjbjmeaaaDoorPcs
namespace Go.Proofs.YtkhdamjjbjmeaaaDoor
open Go.ChangeShapes Go.WideShapes Go.Deep Go.RowKit
set_option linter.unusedVariables false
set_option linter.unusedSimpArgs false
namespace Rl
theorem IsN.at4 {w : World} {a : Option Addr} {n c : Nat} {D : List Nat} (h : IsN w a n c D) {j : Nat} (hj : j < n) : ∃ (b o d : Nat), a = some ⟨b, o, none⟩ ∧ D[j]? = some d ∧ w.cell? ⟨b, o + j, none⟩ = some (.int .i64 d) := by
  rcases h.2.2.2.2 with h0 | ⟨b, o, e, h6⟩
  · omega
  · have hl := h.1
    have e2 : D[j]? = some (D[j]'(by omega)) := List.getElem?_eq_getElem (by omega)
    exact ⟨b, o, _, e, e2, h6 j _ e2⟩
set_option maxHeartbeats 2000000 in
set_option maxRecDepth 100000 in
/-- Two lists of the same numbers. -/
theorem ints4_walk (w : World) (a : Option Addr) (n c : Nat) (b : Option Addr) (m d : Nat) (D : List Nat) (h1 : IsN w a n c D) (h2 : IsN w b m d D) (hn : n ≤ 1073741824) :
    Calls Tryd.prog 23 #[.slice a n c, .slice b m d] w fun e w' => e = .returned (.bool true) ∧ Below w.heap.size w w' := by
  obtain rfl : n = m := by rw [h1.1, h2.1]
  have HA := Lib.hid h1
  have HB := Lib.hid h2
  have HN := Lib.hid hn
  clear h1 h2 hn
  go_enter Tryd.func23, Tryd.ntmps23
  go_wp2_with (fail)
  go_loopw [13] (fun i y => ∃ j : Nat, i = .int .i64 j ∧ Hid (j ≤ n ∧ Below w.heap.size w y)) (fun i _ => n - (intOf i).toNat)
  case atStart => exact ⟨0, rfl, Lib.hid ⟨Nat.zero_le _, Below.refl _ _⟩⟩
  case round =>
    obtain ⟨j, rfl, hp⟩ := hrel
    have HP := Lib.hid hp.out
    clear hp
    by_cases hlt : (j : Int) < n
    · obtain ⟨p, o, e1, rfl, hf, G0⟩ := (HA.out.keep (keep_below HP.out.2)).at4 (show j < n by omega)
      obtain ⟨q, u, e2, rfl, hg, F0⟩ := (HB.out.keep (keep_below HP.out.2)).at4 (show j < n by omega)
      obtain rfl : e1 = e2 := by rw [hf] at hg; exact Option.some.inj hg
      have HJ := Lib.hid (show j < n ∧ wrap64 ((j : Int) + 1) = ((j + 1 : Nat) : Int) by have := HN.out; refine ⟨by omega, ?_⟩; unfold wrap64; omega)
      clear hf hg
      go_upto_region 6 with (fail)
      have s0 : Below wr.heap.size wr wr.drew := (Below.refl _ _).drew
      have NE : Nonempty (Wd (Below wr.heap.size wr)) := ⟨⟨_, s0⟩⟩
      have S0 := Lib.hid s0
      clear s0
      have j0 : ∀ s : Wd (Below wr.heap.size wr), s.val.cell? ⟨p, o + j, none⟩ = some (.int .i64 e1) := fun s => keep1 s.ok G0
      have l0 : ∀ s : Wd (Below wr.heap.size wr), s.val.cell? ⟨q, u + j, none⟩ = some (.int .i64 e1) := fun s => keep1 s.ok F0
      refine wp_region_in (Below wr.heap.size wr) (by kernel_rfl) (by kernel_rfl) S0.out ?_
      repeat (go_big_quiet_step (fail))
      clear j0 l0 G0 F0
      refine wpQuiet_nil ?_
      rintro y ⟨⟨_, hby⟩, rfl⟩
      have HY := Lib.hid (bl HP.out.2 hby)
      clear hby S0 NE
      go_wp2_with (fail)
      try rw [HJ.out.2]
      go_roundw
      case rel => exact ⟨j + 1, rfl, Lib.hid ⟨HJ.out.1, HY.out⟩⟩
      case measure => have := HJ.out.1; show n - (j + 1) < n - j; omega
    · have HY := Lib.hid HP.out.2
      go_wp2_with (fail)
      go_ret
      exact ⟨rfl, HY.out⟩
/-- What Unbatch's answer is, in parts. -/
def uG : UnR → List (Nat → Nat)
  | .ok G _ => G
  | _ => []
def uD : UnR → List Nat
  | .ok _ D => D
  | _ => []
def uA : UnR → Int
  | .flt p _ => p
  | _ => -1
def uK : UnR → Int
  | .flt _ k => k
  | .num k => k
  | .ok _ _ => 0
theorem isT_nil (w : World) : IsT w none 0 0 [] := ⟨rfl, Nat.le_refl _, by decide, fun _ => rfl, .inl rfl⟩
theorem isN_nil (w : World) : IsN w none 0 0 [] := ⟨rfl, Nat.le_refl _, by decide, fun _ => rfl, .inl rfl⟩
theorem txUnbatch_tells (w : World) (a : Option Addr) (n c : Nat) (bs : List Bt) (hB : IsB w a n c bs) :
    Calls Tryd.prog 20 #[.slice a n c] w fun r w' => (∃ a1 c1 a2 c2 er, r = .returned (.tuple #[.slice a1 (uG (unb bs)).length c1, .slice a2 (uD (unb bs)).length c2, er]) ∧ IsT w' a1 (uG (unb bs)).length c1 (uG (unb bs)) ∧ IsN w' a2 (uD (unb bs)).length c2 (uD (unb bs)) ∧ Tells w' er (uA (unb bs)) (uK (unb bs))) ∧ Below w.heap.size w w' := by
  refine (txUnbatch_walk w a n c bs hB).mono ?_
  rintro r w' ⟨h, hb⟩
  refine ⟨?_, hb⟩
  cases hT : unb bs with
  | flt p k =>
    rw [hT] at h
    obtain ⟨v, h1, h2⟩ := h
    exact ⟨none, 0, none, 0, v, h1, isT_nil w', isN_nil w', tells_flt h2⟩
  | num k =>
    rw [hT] at h
    exact ⟨none, 0, none, 0, _, h, isT_nil w', isN_nil w', tells_num w' k⟩
  | ok G D =>
    rw [hT] at h
    obtain ⟨V1, V2, h1, h2, h3, _⟩ := h
    obtain ⟨a1, c1, rfl, h4⟩ := h2.isT
    obtain ⟨a2, c2, rfl, h5⟩ := h3.isN
    exact ⟨a1, c1, a2, c2, _, h1, h4, h5, tells_nil w' (-1)⟩
theorem txRUnbatch_is (w : World) (a : Option Addr) (n c : Nat) (bs : List Bt) (hB : IsB w a n c bs) :
    Calls Tryd.prog 21 #[.slice a n c] w fun r w' => (∃ a1 c1 a2 c2, r = .returned (.tuple #[.slice a1 (uG (unb bs)).length c1, .slice a2 (uD (unb bs)).length c2, .int .i64 (uA (unb bs)), .int .i64 (uK (unb bs))]) ∧ IsT w' a1 (uG (unb bs)).length c1 (uG (unb bs)) ∧ IsN w' a2 (uD (unb bs)).length c2 (uD (unb bs))) ∧ Below w.heap.size w w' := by
  refine (txRUnbatch_walk w a n c bs hB).mono ?_
  rintro r w' ⟨h, hb⟩
  refine ⟨?_, hb⟩
  cases hT : unb bs with
  | flt p k =>
    rw [hT] at h
    exact ⟨none, 0, none, 0, h, isT_nil w', isN_nil w'⟩
  | num k =>
    rw [hT] at h
    exact ⟨none, 0, none, 0, h, isT_nil w', isN_nil w'⟩
  | ok G D =>
    rw [hT] at h
    obtain ⟨V1, V2, h1, h2, h3⟩ := h
    obtain ⟨a1, c1, rfl, h4⟩ := h2.isT
    obtain ⟨a2, c2, rfl, h5⟩ := h3.isN
    exact ⟨a1, c1, a2, c2, h1, h4, h5⟩
theorem unb_few (bs : List Bt) : (uG (unb bs)).length ≤ 8 ∧ (uD (unb bs)).length ≤ 8 := by
  unfold unb
  split
  · exact ⟨Nat.zero_le _, Nat.zero_le _⟩
  · rename_i l x k j hD
    split
    · split
      · rename_i h8
        have := both_len k 0
        exact ⟨by show (gds k).length ≤ 8; omega, by show (bds 0 k).length ≤ 8; omega⟩
      · exact ⟨Nat.zero_le _, Nat.zero_le _⟩
    · exact ⟨Nat.zero_le _, Nat.zero_le _⟩
theorem txBatch_tells (w : World) (a : Option Addr) (n c : Nat) (ls : List (List Bt)) (hL : IsBB w a n c ls) (hs : sumL ls ≤ 1048576) :
    Calls Tryd.prog 18 #[.slice a n c] w fun e w' => (∃ a c er, e = .returned (.tuple #[.slice a (if btOk ls then btB ls else []).length c, er]) ∧ IsB w' a (if btOk ls then btB ls else []).length c (if btOk ls then btB ls else []) ∧ Tells w' er (-1) (if btOk ls then 0 else 5)) ∧ Below w.heap.size w w' := by
  refine (txBatch_walk w a n c ls hL (fun _ => by omega)).mono ?_
  rintro r w' ⟨V, h1, h2, hb⟩
  obtain ⟨a, c, rfl, h3⟩ := h2.isB
  refine ⟨⟨a, c, _, h1, h3, ?_⟩, hb⟩
  by_cases h : btOk ls = true
  · rw [if_pos h, if_pos h]; exact tells_nil w' (-1)
  · rw [if_neg h, if_neg h]; exact tells_num w' 5
theorem txRBatch_is (w : World) (a : Option Addr) (n c : Nat) (ls : List (List Bt)) (hL : IsBB w a n c ls) (hs : sumL ls ≤ 1048576) :
    Calls Tryd.prog 19 #[.slice a n c] w fun e w' => (∃ a c, e = .returned (.tuple #[.slice a (if btOk ls then btB ls else []).length c, .int .i64 (if btOk ls then 0 else 5)]) ∧ IsB w' a (if btOk ls then btB ls else []).length c (if btOk ls then btB ls else [])) ∧ Below w.heap.size w w' := by
  refine (txRBatch_walk w a n c ls hL (fun _ => by omega)).mono ?_
  rintro r w' ⟨V, h1, h2, hb⟩
  obtain ⟨a, c, rfl, h3⟩ := h2.isB
  exact ⟨⟨a, c, h1, h3⟩, hb⟩
set_option maxHeartbeats 4000000 in
set_option maxRecDepth 100000 in
theorem txBatches_walk (w : World) (a : Option Addr) (n c : Nat) (ls : List (List Bt)) (ab : Option Addr) (nb cb : Nat) (bs : List Bt) (hL : IsBB w a n c ls) (hs : sumL ls ≤ 1048576) (hB : IsB w ab nb cb bs) (hm : nb ≤ reachBytes) (hg : Et w) :
    Calls Tryd.prog 5 #[.slice a n c, .slice ab nb cb] w fun e w' => e = .returned (.bool true) ∧ Below w.heap.size w w' := by
  have HL := Lib.hid hL
  have HBT := Lib.hid (fun y a n c (h : IsBB y a n c ls) => txBatch_tells y a n c ls h hs)
  have HRB := Lib.hid (fun y a n c (h : IsBB y a n c ls) => txRBatch_is y a n c ls h hs)
  have HUT := Lib.hid (fun y a n c (h : IsB y a n c bs) => txUnbatch_tells y a n c bs h)
  have HRU := Lib.hid (fun y a n c (h : IsB y a n c bs) => txRUnbatch_is y a n c bs h)
  have HFW := Lib.hid (unb_few bs)
  have HBB := Lib.hid hB
  have HG := Lib.hid hg
  have HM := Lib.hid (show ([] : List Bt).length + bs.length ≤ 140737488355328 by have := hB.1; simp only [reachBytes] at hm; simp; omega)
  clear hL hs hB hm hg
  generalize (if btOk ls then btB ls else []) = X at *
  generalize (if btOk ls then (0 : Int) else 5) = K1 at *
  generalize uA (unb bs) = A2 at *
  generalize uK (unb bs) = K2 at *
  generalize uG (unb bs) = G at *
  generalize uD (unb bs) = D at *
  go_enter Tryd.func5, Tryd.ntmps5
  go_upto_region 3 with (first
    | (go_at_call 18; (with_reducible refine (HBT.out _ _ _ _ HL.out).mono ?_); rintro e y1 ⟨⟨a1, c1, er1, rfl, hX1, hT1⟩, hb⟩
       have B1 := Lib.hid hb
       have X1 := Lib.hid hX1
       have T1 := Lib.hid hT1
       clear hb hX1 hT1 HBT)
    | (go_at_call 19; (with_reducible refine (HRB.out _ _ _ _ (HL.out.keep (keep_below B1.out))).mono ?_); rintro e y2 ⟨⟨a2, c2, rfl, hX2⟩, hb⟩
       have B2 := Lib.hid (bl B1.out hb)
       have X2 := Lib.hid (And.intro (X1.out.keep (keep_below hb)) hX2)
       have T2 := Lib.hid (T1.out.next hb)
       clear hb hX2 HRB X1 T1 B1))
  have HO0 := Lib.hid (own_none y2 y2.heap.size (Nat.le_refl _))
  have HB0 := Lib.hid (ba y2 (.cells #[] 5))
  have HBW := Lib.hid (show IsB (y2.alloc (.cells #[] 5)) ab nb cb bs from HBB.out.keep (keep_below (bl B2.out HB0.out)))
  go_wp2_with (first
    | (refine wpList_appW rfl (.tmp 27) (.tmp 28) rfl y2.heap.size _ [] rfl HO0.out ab nb cb bs rfl HBW.out HM.out HB0.out.size ?_
       intro V3 y3 hO hgr hat
       rw [List.nil_append] at hO
       obtain ⟨a3, c3, rfl, hB3⟩ := hO.isB
       have h23 : Below y2.heap.size y2 y3 := HB0.out.grown hgr HB0.out.size (fun k hk => by cases hk; exact Nat.le_refl _)
       have B3 := Lib.hid (bl B2.out h23)
       have X3 := Lib.hid (And.intro (X2.out.1.keep (keep_below h23)) (And.intro (X2.out.2.keep (keep_below h23)) hB3))
       have T3 := Lib.hid (T2.out.next h23)
       clear hO hgr hat hB3 h23 X2 T2 B2 HO0 HB0 HBW)
    | (go_at_call 20; (with_reducible refine (HUT.out _ _ _ _ X3.out.2.2).mono ?_); rintro e y4 ⟨⟨a4, c4, a5, c5, er2, rfl, hG4, hD4, hT4⟩, hb⟩
       have B4 := Lib.hid (bl B3.out hb)
       have X4 := Lib.hid (And.intro (X3.out.1.keep (keep_below hb)) (X3.out.2.1.keep (keep_below hb)))
       have G4 := Lib.hid (And.intro hG4 hD4)
       have T4 := Lib.hid (And.intro (T3.out.next hb) hT4)
       clear hb hT4 hG4 hD4 X3 T3 B3 HUT)
    | (go_at_call 21; (with_reducible refine (HRU.out _ _ _ _ (HBB.out.keep (keep_below B4.out))).mono ?_); rintro e y5 ⟨⟨a6, c6, a7, c7, rfl, hG5, hD5⟩, hb⟩
       have B5 := Lib.hid (bl B4.out hb)
       have X5 := Lib.hid (And.intro (X4.out.1.keep (keep_below hb)) (X4.out.2.keep (keep_below hb)))
       have G5 := Lib.hid (And.intro (And.intro (G4.out.1.keep (keep_below hb)) hG5) (And.intro (G4.out.2.keep (keep_below hb)) hD5))
       have T5 := Lib.hid (And.intro (T4.out.1.next hb) (T4.out.2.next hb))
       clear hb hG5 hD5 X4 T4 G4 B4 HRU)
    | (go_at_call 8; (with_reducible refine (fixed4_walk _).mono ?_); rintro e y6 ⟨rfl, hb⟩
       have B6 := Lib.hid (And.intro (bl B5.out hb) hb)
       have W6 := Lib.hid (T5.out.1 _ hb (HG.out.next (bl B5.out hb)))
       have v1 := conv_str (X5.out.1.keep (keep_below hb))
       have v2 := conv_str (X5.out.2.keep (keep_below hb))
       clear hb)
    | (go_at_call 16; (with_reducible refine W6.out.mono ?_); rintro e y7 ⟨rfl, hb⟩
       have B7 := Lib.hid (And.intro (bl B6.out.1 hb) (bl B6.out.2 hb))
       clear hb v1 v2)
    | (go_at_call 22; (with_reducible refine (same4_walk _ _ _ _ _ _ _ G G (G5.out.1.1.keep (keep_below B7.out.2)) (G5.out.1.2.keep (keep_below B7.out.2)) rfl (by have := HFW.out; omega)).mono ?_); rintro e y8 ⟨rfl, hb⟩
       have B8 := Lib.hid (And.intro (bl B7.out.1 hb) (bl B7.out.2 hb))
       clear hb)
    | (go_at_call 23; (with_reducible refine (ints4_walk _ _ _ _ _ _ _ D (G5.out.2.1.keep (keep_below B8.out.2)) (G5.out.2.2.keep (keep_below B8.out.2)) (by have := HFW.out; omega)).mono ?_); rintro e y9 ⟨rfl, hb⟩
       have B9 := Lib.hid (And.intro (bl B8.out.1 hb) (bl B8.out.2 hb))
       have W9 := Lib.hid (T5.out.2 _ B9.out.2 (HG.out.next B9.out.1))
       clear hb)
    | (go_at_call 16; (with_reducible refine W9.out.mono ?_); rintro e y10 ⟨rfl, hb⟩
       have B10 := Lib.hid (bl B9.out.1 hb)
       clear hb))
  go_ret
  exact ⟨rfl, B10.out⟩
set_option maxRecDepth 100000 in
/-- Texts that come in, and their bulk. -/
theorem texts_fit {H : Type} {enc : TypeId × Value → H} {w : World} {r : Reach} {b0 base : Nat} {held : Bool} {v : Value} {d : DataW H} {p : List MemPlace} (hv : Value.okWide Tryd.prog w r b0 51 v)
    (h : DataW.Trod enc Tryd.prog w base (fun _ => true) held 51 v d p) : ∃ a n c ls, v = .slice a n c ∧ IsBB w a n c ls ∧ sumL ls ≤ Rows.uptoBulk d := by
  obtain ⟨A, len, cap, rfl⟩ := okWide_slice Tryd.underlying51 hv
  obtain ⟨ls, hl, hp, hn, hlc, hcm, hb⟩ := Kc.pieces_of Tryd.underlying51 Tryd.underlying38 Tryd.underlying5 (by kernel_rfl) (by kernel_rfl) h
  refine ⟨A, len, cap, ls.map fun p => p.2.2, rfl, ⟨by simp [hl], hlc, hcm, fun e => (hn e).2, ?_⟩, by unfold sumL; rw [List.map_map]; exact hb⟩
  rcases hp with rfl | ⟨b, o, e, hat⟩
  · exact .inl hl.symm
  · refine .inr ⟨b, o, e, fun i x hx => ?_⟩
    rw [List.getElem?_map] at hx
    cases hi : ls[i]? with
    | none => rw [hi] at hx; cases hx
    | some q =>
      rw [hi] at hx
      injection hx with hx
      subst hx
      obtain ⟨u, h1, h2⟩ := hat i q hi
      refine ⟨q.1, q.2.2.length, q.2.1, by rw [h1, h2.val], rfl, h2.cap, h2.max, fun e => (h2.nil e).2, ?_⟩
      rcases h2.bs with h0 | ⟨b', o', e', hc⟩
      · left; rw [h0]; rfl
      · refine .inr ⟨b', o', e', fun j y hy => ?_⟩
        have hj := (List.getElem?_eq_some_iff.1 hy).1
        have := hc j hj
        rw [this, List.getD_eq_getElem?_getD, hy]
        rfl
end Rl
end Go.Proofs.YtkhdamjjbjmeaaaDoor
