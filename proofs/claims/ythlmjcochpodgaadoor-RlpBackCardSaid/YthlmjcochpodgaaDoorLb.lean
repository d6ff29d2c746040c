/-
  RlpBack. Own work.
-/
import Derived.Test.YthlmjcochpodgaaDoorSa
namespace Go.Proofs.YthlmjcochpodgaaDoor
open Go.ChangeShapes Go.WideShapes Go.Deep Go.RowKit
set_option linter.unusedVariables false
set_option linter.unusedSimpArgs false
namespace Rl
/-- What a walk keeps: the bytes of a form, the item's box, the cell of errors.errorType. -/
structure Bk (w : World) (A : Option Addr) (N c : Nat) (F : List Bt) (b0 b1 b2 : Value) (y : World) : Prop where
  below : Below w.heap.size w y
  src : IsB y A N c F
  box : Box3 y w.heap.size b0 b1 b2
theorem Bk.next {w : World} {A : Option Addr} {N c : Nat} {F : List Bt} {b0 b1 b2 : Value} {y y' : World} (h : Bk w A N c F b0 b1 b2 y) (hb : Below y.heap.size y y') : Bk w A N c F b0 b1 b2 y' :=
  ⟨bl h.below hb, h.src.keep (keep_below hb), h.box.keep hb⟩
theorem ap0 {y y' : World} {V : Value} (hg : (y.alloc (.cells #[] 5)).grownBy y' V.ownBlock) (hV : ∀ k, V.ownBlock = some k → k = y.heap.size) : Below y.heap.size y y' :=
  (ba y _).grown hg (ba y _).size (fun k hk => by rw [hV k hk]; exact Nat.le_refl _)
theorem same_forms {l l' : Bool} {x x' : List Bt} {k k' : Fo} (h : encW l x k = 0) (h' : encW l' x' k' = 0) : same l x k l' x' k' = decide (wrap l x k.form = wrap l' x' k'.form) := by
  by_cases e : wrap l x k.form = wrap l' x' k'.form
  · rw [decide_eq_true e]; exact same_true.2 (enc_inj h h' e)
  · rw [decide_eq_false e]; exact same_false fun ⟨h1, h2, h3⟩ => e (by rw [h1, h2, h3])
set_option maxHeartbeats 4000000 in
set_option maxRecDepth 100000 in
theorem rlpBack_walk (w : World) (l : Bool) (n c n' c' : Nat) (a a' : Option Addr) (bs : List Bt) (k : Fo) (l2 : Bool) (n2 c2 n2' c2' : Nat) (a2 a2' : Option Addr) (bs2 : List Bt) (kz : Fo) (mo : Int) (hB : IsB w a n c bs) (hK : IsK w a' n' c' k) (hl : bs.length ≤ reachBytes) (hf : k.fit)
    (hB2 : IsB w a2 n2 c2 bs2) (hK2 : IsK w a2' n2' c2' kz) (hl2 : bs2.length ≤ reachBytes) (hf2 : kz.fit) (hmo : (Lit.int .u8 mo).wf = true) (hg : Et w) :
    Calls Tryd.prog 9 #[.agg #[.bool l, .slice a n c, .slice a' n' c'], .agg #[.bool l2, .slice a2 n2 c2, .slice a2' n2' c2'], .int .u8 mo] w fun e w' => e = .returned (.bool true) ∧ Below w.heap.size w w' := by
  obtain ⟨mm, rfl, hmm⟩ : ∃ m : Nat, mo = m ∧ m < 256 := by
    have hw2 := Bool.and_eq_true_iff.1 hmo
    have h1 : (0 : Int) ≤ mo := of_decide_eq_true hw2.1
    have h2 : mo ≤ (255 : Int) := of_decide_eq_true hw2.2
    exact ⟨mo.toNat, by omega, by omega⟩
  have HMM := Lib.hid hmm
  clear hmo hmm
  have H0 := Lib.hid (two_boxes w l (.slice a n c) (.slice a' n' c') l2 (.slice a2 n2 c2) (.slice a2' n2' c2'))
  have HG := Lib.hid hg
  have HX := Lib.hid (And.intro hB hK)
  have HY := Lib.hid (And.intro hB2 hK2)
  have HGX := Lib.hid (fun y (hy : Below w.heap.size w y) => great_here y l n c n' c' a a' bs k (hB.keep (keep_below hy)) (hK.keep (keep_below hy)) hl hf)
  have HGY := Lib.hid (fun y (hy : Below w.heap.size w y) => great_here y l2 n2 c2 n2' c2' a2 a2' bs2 kz (hB2.keep (keep_below hy)) (hK2.keep (keep_below hy)) hl2 hf2)
  clear hB hK hl hf hB2 hK2 hl2 hf2 hg
  cases hG : great bs.length k with
  | true =>
    rw [hG] at HGX
    clear hG
    go_enter Tryd.func9, Tryd.ntmps9
    go_wp2_with (first
      | (go_at_call 16; (with_reducible refine (HGX.out _ H0.out.1).mono ?_); rintro e y1 ⟨rfl, hb⟩; have H1 := Lib.hid (bl H0.out.1 hb); obtain ⟨k0, k1, k2, _, _, _⟩ := H0.out.2.2.keep hb; have HB1 := Lib.hid (H0.out.2.1.keep hb); have HB2 := Lib.hid (H0.out.2.2.keep hb); clear hb HGX)
      | (go_at_call 15; (with_reducible refine (fixed_walk _ (HG.out.next H1.out)).mono ?_); rintro e yf ⟨rfl, hb⟩; have HFX := Lib.hid (bl H1.out hb); clear hb))
    go_ret
    exact ⟨rfl, HFX.out⟩
  | false =>
    rw [hG] at HGX
    have HGX2 := Lib.hid hG
    clear hG
    cases hG : great bs2.length kz with
    | true =>
      rw [hG] at HGY
      clear hG
      go_enter Tryd.func9, Tryd.ntmps9
      go_wp2_with (first
        | (go_at_call 16; (with_reducible refine (HGX.out _ H0.out.1).mono ?_); rintro e y1 ⟨rfl, hb⟩; have H1 := Lib.hid (bl H0.out.1 hb); obtain ⟨k0, k1, k2, _, _, _⟩ := H0.out.2.2.keep hb; have HB1 := Lib.hid (H0.out.2.1.keep hb); have HB2 := Lib.hid (H0.out.2.2.keep hb); clear hb HGX)
        | (go_at_call 16; (with_reducible refine (HGY.out _ H1.out).mono ?_); rintro e y2 ⟨rfl, hb⟩; have H2 := Lib.hid (bl H1.out hb); clear k0 k1 k2; obtain ⟨k0, k1, k2, _, _, _⟩ := HB1.out.keep hb; have HC1 := Lib.hid (HB1.out.keep hb); have HC2 := Lib.hid (HB2.out.keep hb); clear hb HGY HB1 HB2)
        | (go_at_call 15; (with_reducible refine (fixed_walk _ (HG.out.next H2.out)).mono ?_); rintro e yf ⟨rfl, hb⟩; have HFX := Lib.hid (bl H2.out hb); clear hb))
      go_ret
      exact ⟨rfl, HFX.out⟩
    | false =>
      rw [hG] at HGY
      have HGY2 := Lib.hid hG
      clear hG
      by_cases hE : encW l bs k = 0
      · have HE := Lib.hid (fun y n c n' c' a a' hB hK => enc_good y l n c n' c' a a' bs k hB hK hE)
        have hF := And.intro (wrap_pos hE) (And.intro (enc_zero.1 hE).2.2.2 (And.intro (fun m (hm : m < _) => dec_cut hE hm) (And.intro (enc_dec hE) (fun ys (hy : ys ≠ []) => dec_more hE hy))))
        by_cases hE2 : encW l2 bs2 kz = 0
        · have HE2 := Lib.hid (fun y n c n' c' a a' hB hK => enc_good y l2 n c n' c' a a' bs2 kz hB hK hE2)
          have hsf := same_forms hE hE2
          clear hE hE2
          generalize wrap l bs k.form = F at *
          generalize wrap l2 bs2 kz.form = H at *
          have hs := str_beq F H
          rw [← hsf] at hs
          generalize hD : same l bs k l2 bs2 kz = D at *
          have HDD := Lib.hid hD
          clear hsf hD
          obtain ⟨N, hN⟩ : ∃ N, F.length = N := ⟨_, rfl⟩
          rw [hN] at HE hF
          have HF := Lib.hid hF
          have HN := Lib.hid hN
          generalize H.length = M at *
          clear hF hN
          go_enter Tryd.func9, Tryd.ntmps9
          go_upto_region 7 with (first
            | (go_at_call 16; (with_reducible refine (HGX.out _ H0.out.1).mono ?_); rintro e y1 ⟨rfl, hb⟩; have H1 := Lib.hid (bl H0.out.1 hb); obtain ⟨k0, k1, k2, _, _, _⟩ := H0.out.2.2.keep hb; have HB1 := Lib.hid (H0.out.2.1.keep hb); have HB2 := Lib.hid (H0.out.2.2.keep hb); clear hb HGX)
            | (go_at_call 16; (with_reducible refine (HGY.out _ H1.out).mono ?_); rintro e y2 ⟨rfl, hb⟩; have H2 := Lib.hid (bl H1.out hb); clear k0 k1 k2; obtain ⟨k0, k1, k2, _, _, _⟩ := HB1.out.keep hb; have HC1 := Lib.hid (HB1.out.keep hb); have HC2 := Lib.hid (HB2.out.keep hb); clear hb HGY HB1 HB2)
            | (go_at_call 15; (with_reducible refine (fixed_walk _ (HG.out.next H2.out)).mono ?_); rintro e y3 ⟨rfl, hb⟩; have H3 := Lib.hid (bl H2.out hb); have HB1 := Lib.hid (HC1.out.keep hb); have HB2 := Lib.hid (HC2.out.keep hb); clear k0 k1 k2; obtain ⟨k0, k1, k2, _, _, _⟩ := HB1.out; clear hb HC1 HC2)
            | (go_at_call 13; first
     | ((with_reducible refine (HE.out _ _ _ _ _ _ _ (HX.out.1.keep (keep_below H3.out)) (HX.out.2.keep (keep_below H3.out))).mono ?_); rintro e y4 ⟨a5, c5, rfl, hO, hb⟩; have HO := Lib.hid hO.asB; clear hO; have H4 := Lib.hid (bl H3.out hb); clear k0 k1 k2; have HD1 := Lib.hid (HB1.out.keep hb); have HD2 := Lib.hid (HB2.out.keep hb); obtain ⟨k0, k1, k2, _, _, _⟩ := HD2.out; clear hb HB1 HB2)
     | ((with_reducible refine (HE2.out _ _ _ _ _ _ _ (HY.out.1.keep (keep_below H4.out)) (HY.out.2.keep (keep_below H4.out))).mono ?_); rintro e y5 ⟨a6, c6, rfl, hO, hb⟩; have HO := Lib.hid (HO.out.keep (keep_below hb)); have HOY := Lib.hid hO.asB; clear hO; have H5 := Lib.hid (bl H4.out hb); clear k0 k1 k2; have HX1 := Lib.hid (HD1.out.keep hb); have HX2 := Lib.hid (HD2.out.keep hb); clear hb HD1 HD2)))
          have s0 : Below y5.heap.size y5 y5.drew := (Below.refl _ _).drew
          have NE : Nonempty (Wd (Below y5.heap.size y5)) := ⟨⟨_, s0⟩⟩
          have S0 := Lib.hid s0
          clear s0
          have j0 : ∀ s : Wd (Below y5.heap.size y5), s.val.cell? ⟨w.heap.size, 0, none⟩ = some (.bool l) := fun s => keep1 s.ok HX1.out.k0
          have j1 : ∀ s : Wd (Below y5.heap.size y5), s.val.cell? ⟨w.heap.size, 1, none⟩ = some (.slice a n c) := fun s => keep1 s.ok HX1.out.k1
          have j2 : ∀ s : Wd (Below y5.heap.size y5), s.val.cell? ⟨w.heap.size, 2, none⟩ = some (.slice a' n' c') := fun s => keep1 s.ok HX1.out.k2
          have j3 : ∀ s : Wd (Below y5.heap.size y5), s.val.cell? ⟨w.heap.size + 1, 0, none⟩ = some (.bool l2) := fun s => keep1 s.ok HX2.out.k0
          have j4 : ∀ s : Wd (Below y5.heap.size y5), s.val.cell? ⟨w.heap.size + 1, 1, none⟩ = some (.slice a2 n2 c2) := fun s => keep1 s.ok HX2.out.k1
          have j5 : ∀ s : Wd (Below y5.heap.size y5), s.val.cell? ⟨w.heap.size + 1, 2, none⟩ = some (.slice a2' n2' c2') := fun s => keep1 s.ok HX2.out.k2
          have v1 : ∀ s : Wd (Below y5.heap.size y5), (convert 22 9 (.slice a5 N c5)).run Tryd.prog s.val = .ok (.string (str F)) s.val := fun s => conv_str (HO.out.keep (keep_below s.ok))
          have v2 : ∀ s : Wd (Below y5.heap.size y5), (convert 22 9 (.slice a6 M c6)).run Tryd.prog s.val = .ok (.string (str H)) s.val := fun s => conv_str (HOY.out.keep (keep_below s.ok))
          have Q1 := Lib.hid (fun s : Wd (Below y5.heap.size y5) => in_of_below s (fun y hb => bl s.ok hb) (same_walk s.val l n c n' c' a a' bs k l2 n2 c2 n2' c2' a2 a2' bs2 kz (HX.out.1.keep (keep_below (bl H5.out s.ok))) (HX.out.2.keep (keep_below (bl H5.out s.ok))) (HY.out.1.keep (keep_below (bl H5.out s.ok))) (HY.out.2.keep (keep_below (bl H5.out s.ok)))))
          rw [HDD.out] at Q1
          refine wp_region_in (Below y5.heap.size y5) (by kernel_rfl) (by kernel_rfl) S0.out ?_
          repeat (go_big_quiet_step (with_reducible exact Q1.out _))
          clear j0 j1 j2 j3 j4 j5 v1 v2 Q1 hs
          refine wpQuiet_nil ?_
          rintro y ⟨⟨_, hby⟩, rfl⟩
          have HS := Lib.hid (show Bk w a5 N c5 F (.bool l) (.slice a n c) (.slice a' n' c') y from ⟨bl H5.out hby, HO.out.keep (keep_below hby), HX1.out.keep hby⟩)
          clear hby HO HX1 HX2 S0 NE
          obtain ⟨b5, o5, rfl⟩ : ∃ b o, a5 = some ⟨b, o, none⟩ := by
            rcases HS.out.src.2.2.2.2 with h | ⟨b, o, e, _⟩
            · have := HF.out.1; omega
            · exact ⟨b, o, e⟩
          have hN0 : ((N : Int) == 0) = false := by
            have h1 := HF.out.1
            have : ¬ (N : Int) = 0 := by omega
            simpa using this
          have hc5 : ¬ c5 = 0 := by have := HF.out.1; have := HS.out.src.2.1; omega
          have hw1 : wrap64 ((N : Int) - 1) = ((N - 1 : Nat) : Int) := by have := HF.out.1; have := HF.out.2.1; unfold wrap64; omega
          have hlo : ((N - 1 : Nat) : Int) ≤ (c5 : Int) := by have := HF.out.1; have := HS.out.src.2.1; omega
          have hlz : (0 : Int) ≤ ((N - 1 : Nat) : Int) := by omega
          have HT : Hid (∀ y, IsB y (some ⟨b5, o5, none⟩) N c5 F → IsB y (some ⟨b5, o5, none⟩) (N - 1) c5 (F.take (N - 1))) := Lib.hid (fun y hy => by
            have := hy.sub (i := 0) (m := N - 1) (by omega)
            simpa [slc] using this)
          obtain ⟨p1, w1, hd1⟩ := HF.out.2.2.1 (N - 1) (by have := HF.out.1; omega)
          obtain ⟨p2, w2, hd2⟩ := HF.out.2.2.2.2 [BitVec.ofNat 8 mm] (by simp)
          obtain ⟨T, hT⟩ : ∃ T, F.take (N - 1) = T := ⟨_, rfl⟩
          obtain ⟨G, hG⟩ : ∃ G, F ++ [BitVec.ofNat 8 mm] = G := ⟨_, rfl⟩
          rw [hT] at hd1 HT
          rw [hG] at hd2
          have HD1 := Lib.hid hd1
          have HD2 := Lib.hid hd2
          have HGG := Lib.hid hG
          have HTL := Lib.hid (show T.length ≤ N by rw [← hT]; simp; omega)
          generalize hmq : N - 1 = mq at *
          clear hd1 hd2 hG hT hmq
          go_wp2_with (first
            | (refine wpList_appB rfl (.tmp 54) (.tmp 55) rfl w.heap.size (.slice (some ⟨y.heap.size, 0, none⟩) 0 0) [] rfl (own_none y _ HS.out.below.size) (some ⟨b5, o5, none⟩) N c5 F rfl (HS.out.next (ba _ _)).src (by have h1 := HF.out.2.1; have h2 := HN.out; simp; omega) (HS.out.next (ba _ _)).below.size ?_
               intro V6 y6 hO hg hat
               rw [List.nil_append] at hO
               obtain ⟨a6, c6, rfl, hB6⟩ := hO.isB
               have HS6 := Lib.hid (HS.out.next (ap0 hg (fun k hk => by cases hk; rfl)))
               have HB6 := Lib.hid hB6
               clear hO hg hat hB6 HS)
            | (go_at_call 14; first
               | ((with_reducible refine (decode_walk _ _ _ _ _ HB6.out).mono ?_); rintro e y7 ⟨hd, hb⟩; rw [HF.out.2.2.2.1] at hd; obtain ⟨d1, e1, f1, d2, e2, f2, rfl, hB7, hK7⟩ := hd
                  have hba := ba y7 (.cells #[.bool l, .slice d1 e1 f1, .slice d2 e2 f2] 25)
                  have HS7 := Lib.hid (HS6.out.next (bl hb hba))
                  have HI7 := Lib.hid (And.intro ((hB7.keep (see_keep _ _)).keep (keep_below hba)) ((hK7.keep (see_keep _ _)).keep (keep_below hba)))
                  obtain ⟨k0, k1, k2, _, _, _⟩ := HS7.out.box
                  clear hb hB7 hK7 hba HB6 HS6)
               | ((with_reducible refine (decode_walk _ _ _ _ _ HBA.out).mono ?_); rintro e yB ⟨hd, hb⟩; rw [HD2.out] at hd; obtain ⟨_, rfl, q7, rfl, _, _, _⟩ := hd; unfold zIt
                  have HSB := Lib.hid (HSA.out.next hb)
                  clear hb HBA HSA)
               | ((with_reducible refine (decode_walk _ _ _ _ _ HBC.out).mono ?_); rintro e yD ⟨hd, hb⟩; rw [HD1.out] at hd; obtain ⟨_, rfl, q8, rfl, _, _, _⟩ := hd; unfold zIt
                  have HSD := Lib.hid (HSC.out.next hb)
                  clear hb HBC HSC))
            | (go_at_call 20; (with_reducible refine (same_walk _ l n c n' c' a a' bs k l e1 f1 e2 f2 d1 d2 bs k (HX.out.1.keep (keep_below HS7.out.below)) (HX.out.2.keep (keep_below HS7.out.below)) HI7.out.1 HI7.out.2).mono ?_); rintro e y8 ⟨rfl, hb⟩
               rw [show same l bs k l bs k = true from same_true.2 ⟨rfl, rfl, rfl⟩]
               have HS8 := Lib.hid (HS7.out.next hb)
               clear hb k0 k1 k2 HS7 HI7)
            | (refine wpList_appB rfl (.tmp 74) (.tmp 75) rfl w.heap.size (.slice (some ⟨y8.heap.size, 0, none⟩) 0 0) [] rfl (own_none y8 _ HS8.out.below.size) (some ⟨b5, o5, none⟩) N c5 F rfl (HS8.out.next (ba _ _)).src (by have h1 := HF.out.2.1; have h2 := HN.out; simp; omega) (HS8.out.next (ba _ _)).below.size ?_
               intro V9 y9 hO hg hat
               rw [List.nil_append] at hO
               have HY9 := Lib.hid (ap0 hg (fun k hk => by cases hk; rfl))
               have HS9 := Lib.hid (HS8.out.next HY9.out)
               have HO9 := Lib.hid hO
               have HV9 := Lib.hid (show ∀ k, V9.ownBlock = some k → y8.heap.size ≤ k from fun k hk => by
                 rcases hat k hk with h | h
                 · injection h with h; have h : y8.heap.size = k := h; omega
                 · simp at h; omega)
               clear hO hg hat)
            | (refine wpList_appB rfl (.tmp 76) (.tmp 78) rfl w.heap.size V9 F rfl (HO9.out.below (ba _ _)) (some ⟨y9.heap.size, 0, none⟩) 1 1 [BitVec.ofNat 8 mm] rfl (isB_one _ _ (bvb_of _ _ rfl HMM.out)) (by have h1 := HF.out.2.1; have h2 := HN.out; simp; omega) (HS9.out.next (ba _ _)).below.size ?_
               intro VA yA hO hg hat
               rw [HGG.out] at hO
               obtain ⟨aA, cA, rfl, hBA⟩ := hO.isB
               have HBA := Lib.hid hBA
               have HSA := Lib.hid (HS8.out.next ((HY9.out.alloc HY9.out.size (.cells #[.int .u8 mm] 5)).grown hg (HY9.out.alloc HY9.out.size (.cells #[.int .u8 mm] 5)).size (fun k hk => HV9.out k hk)))
               clear hO hg hat hBA)
            | (refine wpList_appB rfl (.tmp 84) (.tmp 89) rfl w.heap.size (.slice (some ⟨yB.heap.size, 0, none⟩) 0 0) [] rfl (own_none yB _ HSB.out.below.size) (some ⟨b5, o5, none⟩) mq c5 T rfl (HT.out _ (HSB.out.next (ba _ _)).src) (by have h1 := HF.out.2.1; have h2 := HTL.out; simp; omega) (HSB.out.next (ba _ _)).below.size ?_
               intro VC yC hO hg hat
               rw [List.nil_append] at hO
               obtain ⟨aC, cC, rfl, hBC⟩ := hO.isB
               have HSC := Lib.hid (HSB.out.next (ap0 hg (fun k hk => by cases hk; rfl)))
               have HBC := Lib.hid hBC
               clear hO hg hat hBC HSB))
          go_ret
          exact ⟨rfl, HSD.out.below⟩
        · have HE2 := Lib.hid (fun y n c n' c' a a' hB hK => enc_bad y l2 n c n' c' a a' bs2 kz hB hK HGY2.out hE2)
          clear hE hE2
          generalize wrap l bs k.form = F at *
          obtain ⟨N, hN⟩ : ∃ N, F.length = N := ⟨_, rfl⟩
          rw [hN] at HE hF
          have HF := Lib.hid hF
          have HN := Lib.hid hN
          clear hF hN
          go_enter Tryd.func9, Tryd.ntmps9
          go_upto_region 7 with (first
            | (go_at_call 16; (with_reducible refine (HGX.out _ H0.out.1).mono ?_); rintro e y1 ⟨rfl, hb⟩; have H1 := Lib.hid (bl H0.out.1 hb); obtain ⟨k0, k1, k2, _, _, _⟩ := H0.out.2.2.keep hb; have HB1 := Lib.hid (H0.out.2.1.keep hb); have HB2 := Lib.hid (H0.out.2.2.keep hb); clear hb HGX)
            | (go_at_call 16; (with_reducible refine (HGY.out _ H1.out).mono ?_); rintro e y2 ⟨rfl, hb⟩; have H2 := Lib.hid (bl H1.out hb); clear k0 k1 k2; obtain ⟨k0, k1, k2, _, _, _⟩ := HB1.out.keep hb; have HC1 := Lib.hid (HB1.out.keep hb); have HC2 := Lib.hid (HB2.out.keep hb); clear hb HGY HB1 HB2)
            | (go_at_call 15; (with_reducible refine (fixed_walk _ (HG.out.next H2.out)).mono ?_); rintro e y3 ⟨rfl, hb⟩; have H3 := Lib.hid (bl H2.out hb); have HB1 := Lib.hid (HC1.out.keep hb); have HB2 := Lib.hid (HC2.out.keep hb); clear k0 k1 k2; obtain ⟨k0, k1, k2, _, _, _⟩ := HB1.out; clear hb HC1 HC2)
            | (go_at_call 13; first
     | ((with_reducible refine (HE.out _ _ _ _ _ _ _ (HX.out.1.keep (keep_below H3.out)) (HX.out.2.keep (keep_below H3.out))).mono ?_); rintro e y4 ⟨a5, c5, rfl, hO, hb⟩; have HO := Lib.hid hO.asB; clear hO; have H4 := Lib.hid (bl H3.out hb); clear k0 k1 k2; have HD1 := Lib.hid (HB1.out.keep hb); have HD2 := Lib.hid (HB2.out.keep hb); obtain ⟨k0, k1, k2, _, _, _⟩ := HD2.out; clear hb HB1 HB2)
     | ((with_reducible refine (HE2.out _ _ _ _ _ _ _ (HY.out.1.keep (keep_below H4.out)) (HY.out.2.keep (keep_below H4.out))).mono ?_); rintro e y5 ⟨⟨a6, c6, rfl⟩, hb⟩; unfold eN; have HO := Lib.hid (HO.out.keep (keep_below hb)); have H5 := Lib.hid (bl H4.out hb); clear k0 k1 k2; have HX1 := Lib.hid (HD1.out.keep hb); have HX2 := Lib.hid (HD2.out.keep hb); clear hb HD1 HD2)))
          have s0 : Below y5.heap.size y5 y5.drew := (Below.refl _ _).drew
          have NE : Nonempty (Wd (Below y5.heap.size y5)) := ⟨⟨_, s0⟩⟩
          have S0 := Lib.hid s0
          clear s0
          refine wp_region_in (Below y5.heap.size y5) (by kernel_rfl) (by kernel_rfl) S0.out ?_
          repeat (go_big_quiet_step (fail))
          refine wpQuiet_nil ?_
          rintro y ⟨⟨_, hby⟩, rfl⟩
          have HS := Lib.hid (show Bk w a5 N c5 F (.bool l) (.slice a n c) (.slice a' n' c') y from ⟨bl H5.out hby, HO.out.keep (keep_below hby), HX1.out.keep hby⟩)
          clear hby HO HX1 HX2 S0 NE
          obtain ⟨b5, o5, rfl⟩ : ∃ b o, a5 = some ⟨b, o, none⟩ := by
            rcases HS.out.src.2.2.2.2 with h | ⟨b, o, e, _⟩
            · have := HF.out.1; omega
            · exact ⟨b, o, e⟩
          have hN0 : ((N : Int) == 0) = false := by
            have h1 := HF.out.1
            have : ¬ (N : Int) = 0 := by omega
            simpa using this
          have hc5 : ¬ c5 = 0 := by have := HF.out.1; have := HS.out.src.2.1; omega
          have hw1 : wrap64 ((N : Int) - 1) = ((N - 1 : Nat) : Int) := by have := HF.out.1; have := HF.out.2.1; unfold wrap64; omega
          have hlo : ((N - 1 : Nat) : Int) ≤ (c5 : Int) := by have := HF.out.1; have := HS.out.src.2.1; omega
          have hlz : (0 : Int) ≤ ((N - 1 : Nat) : Int) := by omega
          have HT : Hid (∀ y, IsB y (some ⟨b5, o5, none⟩) N c5 F → IsB y (some ⟨b5, o5, none⟩) (N - 1) c5 (F.take (N - 1))) := Lib.hid (fun y hy => by
            have := hy.sub (i := 0) (m := N - 1) (by omega)
            simpa [slc] using this)
          obtain ⟨p1, w1, hd1⟩ := HF.out.2.2.1 (N - 1) (by have := HF.out.1; omega)
          obtain ⟨p2, w2, hd2⟩ := HF.out.2.2.2.2 [BitVec.ofNat 8 mm] (by simp)
          obtain ⟨T, hT⟩ : ∃ T, F.take (N - 1) = T := ⟨_, rfl⟩
          obtain ⟨G, hG⟩ : ∃ G, F ++ [BitVec.ofNat 8 mm] = G := ⟨_, rfl⟩
          rw [hT] at hd1 HT
          rw [hG] at hd2
          have HD1 := Lib.hid hd1
          have HD2 := Lib.hid hd2
          have HGG := Lib.hid hG
          have HTL := Lib.hid (show T.length ≤ N by rw [← hT]; simp; omega)
          generalize hmq : N - 1 = mq at *
          clear hd1 hd2 hG hT hmq
          go_wp2_with (first
            | (refine wpList_appB rfl (.tmp 54) (.tmp 55) rfl w.heap.size (.slice (some ⟨y.heap.size, 0, none⟩) 0 0) [] rfl (own_none y _ HS.out.below.size) (some ⟨b5, o5, none⟩) N c5 F rfl (HS.out.next (ba _ _)).src (by have h1 := HF.out.2.1; have h2 := HN.out; simp; omega) (HS.out.next (ba _ _)).below.size ?_
               intro V6 y6 hO hg hat
               rw [List.nil_append] at hO
               obtain ⟨a6, c6, rfl, hB6⟩ := hO.isB
               have HS6 := Lib.hid (HS.out.next (ap0 hg (fun k hk => by cases hk; rfl)))
               have HB6 := Lib.hid hB6
               clear hO hg hat hB6 HS)
            | (go_at_call 14; first
               | ((with_reducible refine (decode_walk _ _ _ _ _ HB6.out).mono ?_); rintro e y7 ⟨hd, hb⟩; rw [HF.out.2.2.2.1] at hd; obtain ⟨d1, e1, f1, d2, e2, f2, rfl, hB7, hK7⟩ := hd
                  have hba := ba y7 (.cells #[.bool l, .slice d1 e1 f1, .slice d2 e2 f2] 25)
                  have HS7 := Lib.hid (HS6.out.next (bl hb hba))
                  have HI7 := Lib.hid (And.intro ((hB7.keep (see_keep _ _)).keep (keep_below hba)) ((hK7.keep (see_keep _ _)).keep (keep_below hba)))
                  obtain ⟨k0, k1, k2, _, _, _⟩ := HS7.out.box
                  clear hb hB7 hK7 hba HB6 HS6)
               | ((with_reducible refine (decode_walk _ _ _ _ _ HBA.out).mono ?_); rintro e yB ⟨hd, hb⟩; rw [HD2.out] at hd; obtain ⟨_, rfl, q7, rfl, _, _, _⟩ := hd; unfold zIt
                  have HSB := Lib.hid (HSA.out.next hb)
                  clear hb HBA HSA)
               | ((with_reducible refine (decode_walk _ _ _ _ _ HBC.out).mono ?_); rintro e yD ⟨hd, hb⟩; rw [HD1.out] at hd; obtain ⟨_, rfl, q8, rfl, _, _, _⟩ := hd; unfold zIt
                  have HSD := Lib.hid (HSC.out.next hb)
                  clear hb HBC HSC))
            | (go_at_call 20; (with_reducible refine (same_walk _ l n c n' c' a a' bs k l e1 f1 e2 f2 d1 d2 bs k (HX.out.1.keep (keep_below HS7.out.below)) (HX.out.2.keep (keep_below HS7.out.below)) HI7.out.1 HI7.out.2).mono ?_); rintro e y8 ⟨rfl, hb⟩
               rw [show same l bs k l bs k = true from same_true.2 ⟨rfl, rfl, rfl⟩]
               have HS8 := Lib.hid (HS7.out.next hb)
               clear hb k0 k1 k2 HS7 HI7)
            | (refine wpList_appB rfl (.tmp 74) (.tmp 75) rfl w.heap.size (.slice (some ⟨y8.heap.size, 0, none⟩) 0 0) [] rfl (own_none y8 _ HS8.out.below.size) (some ⟨b5, o5, none⟩) N c5 F rfl (HS8.out.next (ba _ _)).src (by have h1 := HF.out.2.1; have h2 := HN.out; simp; omega) (HS8.out.next (ba _ _)).below.size ?_
               intro V9 y9 hO hg hat
               rw [List.nil_append] at hO
               have HY9 := Lib.hid (ap0 hg (fun k hk => by cases hk; rfl))
               have HS9 := Lib.hid (HS8.out.next HY9.out)
               have HO9 := Lib.hid hO
               have HV9 := Lib.hid (show ∀ k, V9.ownBlock = some k → y8.heap.size ≤ k from fun k hk => by
                 rcases hat k hk with h | h
                 · injection h with h; have h : y8.heap.size = k := h; omega
                 · simp at h; omega)
               clear hO hg hat)
            | (refine wpList_appB rfl (.tmp 76) (.tmp 78) rfl w.heap.size V9 F rfl (HO9.out.below (ba _ _)) (some ⟨y9.heap.size, 0, none⟩) 1 1 [BitVec.ofNat 8 mm] rfl (isB_one _ _ (bvb_of _ _ rfl HMM.out)) (by have h1 := HF.out.2.1; have h2 := HN.out; simp; omega) (HS9.out.next (ba _ _)).below.size ?_
               intro VA yA hO hg hat
               rw [HGG.out] at hO
               obtain ⟨aA, cA, rfl, hBA⟩ := hO.isB
               have HBA := Lib.hid hBA
               have HSA := Lib.hid (HS8.out.next ((HY9.out.alloc HY9.out.size (.cells #[.int .u8 mm] 5)).grown hg (HY9.out.alloc HY9.out.size (.cells #[.int .u8 mm] 5)).size (fun k hk => HV9.out k hk)))
               clear hO hg hat hBA)
            | (refine wpList_appB rfl (.tmp 84) (.tmp 89) rfl w.heap.size (.slice (some ⟨yB.heap.size, 0, none⟩) 0 0) [] rfl (own_none yB _ HSB.out.below.size) (some ⟨b5, o5, none⟩) mq c5 T rfl (HT.out _ (HSB.out.next (ba _ _)).src) (by have h1 := HF.out.2.1; have h2 := HTL.out; simp; omega) (HSB.out.next (ba _ _)).below.size ?_
               intro VC yC hO hg hat
               rw [List.nil_append] at hO
               obtain ⟨aC, cC, rfl, hBC⟩ := hO.isB
               have HSC := Lib.hid (HSB.out.next (ap0 hg (fun k hk => by cases hk; rfl)))
               have HBC := Lib.hid hBC
               clear hO hg hat hBC HSB))
          go_ret
          exact ⟨rfl, HSD.out.below⟩
      · have HE := Lib.hid (fun y n c n' c' a a' hB hK => enc_bad y l n c n' c' a a' bs k hB hK HGX2.out hE)
        have HE2 := Lib.hid (fun y n c n' c' a a' hB hK => enc_any y l2 n c n' c' a a' bs2 kz hB hK HGY2.out)
        clear hE
        generalize (if encW l2 bs2 kz = 0 then Value.nilIface else eN (encW l2 bs2 kz)) = er at *
        go_enter Tryd.func9, Tryd.ntmps9
        go_upto_region 7 with (first
          | (go_at_call 16; (with_reducible refine (HGX.out _ H0.out.1).mono ?_); rintro e y1 ⟨rfl, hb⟩; have H1 := Lib.hid (bl H0.out.1 hb); obtain ⟨k0, k1, k2, _, _, _⟩ := H0.out.2.2.keep hb; have HB1 := Lib.hid (H0.out.2.1.keep hb); have HB2 := Lib.hid (H0.out.2.2.keep hb); clear hb HGX)
          | (go_at_call 16; (with_reducible refine (HGY.out _ H1.out).mono ?_); rintro e y2 ⟨rfl, hb⟩; have H2 := Lib.hid (bl H1.out hb); clear k0 k1 k2; obtain ⟨k0, k1, k2, _, _, _⟩ := HB1.out.keep hb; have HC1 := Lib.hid (HB1.out.keep hb); have HC2 := Lib.hid (HB2.out.keep hb); clear hb HGY HB1 HB2)
          | (go_at_call 15; (with_reducible refine (fixed_walk _ (HG.out.next H2.out)).mono ?_); rintro e y3 ⟨rfl, hb⟩; have H3 := Lib.hid (bl H2.out hb); have HB1 := Lib.hid (HC1.out.keep hb); have HB2 := Lib.hid (HC2.out.keep hb); clear k0 k1 k2; obtain ⟨k0, k1, k2, _, _, _⟩ := HB1.out; clear hb HC1 HC2)
          | (go_at_call 13; first
     | ((with_reducible refine (HE.out _ _ _ _ _ _ _ (HX.out.1.keep (keep_below H3.out)) (HX.out.2.keep (keep_below H3.out))).mono ?_); rintro e y4 ⟨⟨a5, c5, rfl⟩, hb⟩; unfold eN; have H4 := Lib.hid (bl H3.out hb); clear k0 k1 k2; have HD1 := Lib.hid (HB1.out.keep hb); have HD2 := Lib.hid (HB2.out.keep hb); obtain ⟨k0, k1, k2, _, _, _⟩ := HD2.out; clear hb HB1 HB2)
     | ((with_reducible refine (HE2.out _ _ _ _ _ _ _ (HY.out.1.keep (keep_below H4.out)) (HY.out.2.keep (keep_below H4.out))).mono ?_); rintro e y5 ⟨⟨a6, n6, c6, rfl⟩, hb⟩; have H5 := Lib.hid (bl H4.out hb); clear k0 k1 k2; have HX1 := Lib.hid (HD1.out.keep hb); have HX2 := Lib.hid (HD2.out.keep hb); clear hb HD1 HD2)))
        have s0 : Below y5.heap.size y5 y5.drew := (Below.refl _ _).drew
        have NE : Nonempty (Wd (Below y5.heap.size y5)) := ⟨⟨_, s0⟩⟩
        have S0 := Lib.hid s0
        clear s0
        refine wp_region_in (Below y5.heap.size y5) (by kernel_rfl) (by kernel_rfl) S0.out ?_
        repeat (go_big_quiet_step (fail))
        refine wpQuiet_nil ?_
        rintro y ⟨⟨_, hby⟩, rfl⟩
        go_wp2_with (fail)
        go_ret
        exact ⟨rfl, bl H5.out hby⟩
end Rl
end Go.Proofs.YthlmjcochpodgaaDoor
