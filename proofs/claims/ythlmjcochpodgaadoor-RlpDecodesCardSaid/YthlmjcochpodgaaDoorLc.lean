/-
  RlpCuts. Own work.
-/
import Derived.Test.YthlmjcochpodgaaDoorCp
import Derived.Test.YthlmjcochpodgaaDoorLn
namespace Go.Proofs.YthlmjcochpodgaaDoor
open Go.ChangeShapes Go.WideShapes Go.Deep Go.RowKit
set_option linter.unusedVariables false
set_option linter.unusedSimpArgs false
namespace Rl
theorem wpList_appW {w : World} {ops : Array Oper} {rest : List Oper} {o : Oper} {a : Act} {Q : Exit → Act → World → Prop} (hgd : o.guard = none) (s x : Operand)
    (ho : o.op = .call { callee := .builtin .append, args := #[s, x], argTypes := #[22, 22] })
    (B : Nat) (V : Value) (xs : List Bt) (hs : a.eval s = V) (hown : Own w B V xs) (A : Option Addr) (m c : Nat) (ys : List Bt) (hx : a.eval x = .slice A m c) (hsrc : IsB w A m c ys)
    (hlen : xs.length + ys.length ≤ 140737488355328) (hbase : B ≤ w.heap.size)
    (h : ∀ V' w', Own w' B V' (xs ++ ys) → w.grownBy w' V.ownBlock → (∀ k, V'.ownBlock = some k → V.ownBlock = some k ∨ k = w.heap.size) → wpList Tryd.prog ops Q rest (a.put o.dst V') w') : wpList Tryd.prog ops Q (o :: rest) a w := by
  obtain ⟨i, hi⟩ := one1
  have hm : m = ys.length := hsrc.1
  have hoo : ∀ V' w', w'.ownsRow B 5 1 V' (xs.length + m) (xs.map bvb ++ ys.map bvb) → Own w' B V' (xs ++ ys) := fun V' w' hh => by
    unfold Own; rw [List.length_append, List.map_append, ← hm]; exact hh
  rcases hsrc.src with ⟨rfl, rfl, rfl, e⟩ | ⟨ad, rfl, hl, hc⟩
  · refine wpList_append_own_none hgd s x 22 ho B 5 i 1 und22 hi.1 V xs.length (xs.map bvb) hs hown hx ?_
    exact h V w (hoo V w (by rw [e, Nat.add_zero, List.append_nil]; exact hown)) (World.grownBy.refl w _) (fun k hk => .inl hk)
  · exact wpList_append_at w hgd s x 22 ho B 5 i (.int .u8 0) 1 1 und22 hi rfl (by decide) V xs.length (xs.map bvb) hs hown ad m c (ys.map bvb) hx hl hc (by intro u hu; obtain ⟨b, _, rfl⟩ := List.mem_map.1 hu; rfl) (by unfold maxLen; omega) (by omega) hbase
      (fun V' w' h1 h2 h3 => h V' w' (hoo V' w' h1) h2 h3)
set_option maxRecDepth 100000 in
theorem bytes_in {H : Type} {enc : TypeId × Value → H} {w : World} {base : Nat} {spare : Nat → Bool} {held : Bool} {r : Reach} {b0 : Nat} {v : Value} {d : DataW H} {p : List MemPlace} (hv : Value.okWide Tryd.prog w r b0 22 v)
    (h : DataW.Trod enc Tryd.prog w base spare held 22 v d p) (hw : ∀ m ∈ d.weights Tryd.prog 22, m ≤ reachBytes) : ∃ a n c bs, v = .slice a n c ∧ IsB w a n c bs ∧ n ≤ reachBytes := by
  obtain ⟨a, n, c, rfl⟩ := okWide_slice Tryd.underlying22 hv
  obtain ⟨fuel, hf⟩ := h
  obtain ⟨a', n', c', bs, e, h1, h2⟩ := bytes_fit Tryd.underlying22 Tryd.underlying5 (by kernel_rfl) (by kernel_rfl) hf
  simp [Value.cells] at e
  obtain ⟨rfl, rfl, rfl⟩ := e
  exact ⟨a, n, c, bs, rfl, h1, h2 hw⟩
theorem own_nx (y : World) (B : Nat) (o : Obj) (h : B ≤ (y.alloc o).heap.size) : Own ((y.alloc o).alloc (.cells #[] 5)) B (.slice (some ⟨y.heap.size + 1, 0, none⟩) 0 0) [] := by
  have := own_none (y.alloc o) B h
  rw [show (y.alloc o).heap.size = y.heap.size + 1 by simp] at this; exact this
theorem enc_bad (w : World) (l : Bool) (n c n' c' : Nat) (a a' : Option Addr) (bs : List Bt) (k : Fo) (hB : IsB w a n c bs) (hK : IsK w a' n' c' k) (hg : great bs.length k = false) (hE : encW l bs k ≠ 0) :
    Calls Tryd.prog 13 #[.agg #[.bool l, .slice a n c, .slice a' n' c']] w fun e w' => (∃ a5 c5, e = .returned (.tuple #[.slice a5 0 c5, eN (encW l bs k)])) ∧ Below w.heap.size w w' := by
  refine (encode_walk w l n c n' c' a a' bs k hB hK (great_form hg)).mono ?_
  rintro e w' ⟨V, h1, h2, h3⟩
  rw [if_neg hE] at h1 h2
  obtain ⟨a5, c5, rfl, _⟩ := h2.isB
  exact ⟨⟨a5, c5, h1⟩, h3⟩
theorem enc_good (w : World) (l : Bool) (n c n' c' : Nat) (a a' : Option Addr) (bs : List Bt) (k : Fo) (hB : IsB w a n c bs) (hK : IsK w a' n' c' k) (hE : encW l bs k = 0) :
    Calls Tryd.prog 13 #[.agg #[.bool l, .slice a n c, .slice a' n' c']] w fun e w' => ∃ a5 c5, e = .returned (.tuple #[.slice a5 (wrap l bs k.form).length c5, .nilIface]) ∧ Own w' w.heap.size (.slice a5 (wrap l bs k.form).length c5) (wrap l bs k.form) ∧ Below w.heap.size w w' := by
  refine (encode_walk w l n c n' c' a a' bs k hB hK (by have := (enc_zero.1 hE).2.2.2; unfold B30; omega)).mono ?_
  rintro e w' ⟨V, h1, h2, h3⟩
  rw [if_pos hE] at h1 h2
  obtain ⟨a5, c5, rfl, _⟩ := h2.isB
  exact ⟨a5, c5, h1, h2, h3⟩
set_option maxHeartbeats 4000000 in
set_option maxRecDepth 100000 in
theorem rlpCuts_walk (w : World) (l : Bool) (n c n' c' : Nat) (a a' : Option Addr) (bs : List Bt) (k : Fo) (at' : Int) (ab : Option Addr) (nb cb : Nat) (ms : List Bt) (hB : IsB w a n c bs) (hK : IsK w a' n' c' k) (hl : bs.length ≤ reachBytes) (hf : k.fit)
    (hw : (Lit.int .i64 at').wf = true) (hM : IsB w ab nb cb ms) (hm : nb ≤ reachBytes) (hg : Et w) :
    Calls Tryd.prog 4 #[.agg #[.bool l, .slice a n c, .slice a' n' c'], .int .i64 at', .slice ab nb cb] w fun e w' => e = .returned (.bool true) ∧ Below w.heap.size w w' := by
  have HB0 := Lib.hid (ba w (.cells #[.bool l, .slice a n c, .slice a' n' c'] 25))
  have HX0 := Lib.hid (Box3.new w (.bool l) (.slice a n c) (.slice a' n' c') 25)
  have HG := Lib.hid hg
  have HBB := Lib.hid hB
  have HK := Lib.hid hK
  have HMM := Lib.hid (And.intro hM hm)
  have HGR := Lib.hid (great_here _ l n c n' c' a a' bs k (hB.keep (keep_below HB0.out)) (hK.keep (keep_below HB0.out)) hl hf)
  clear hB hK hl hf hg hM hm
  cases hG : great bs.length k with
  | true =>
    rw [hG] at HGR
    clear hG
    go_enter Tryd.func4, Tryd.ntmps4
    go_wp2_with (first
      | (go_at_call 16; (with_reducible refine HGR.out.mono ?_); rintro e y1 ⟨rfl, hb⟩; have H1 := Lib.hid (bl HB0.out hb); clear hb HGR)
      | (go_at_call 15; (with_reducible refine (fixed_walk _ (HG.out.next H1.out)).mono ?_); rintro e y2 ⟨rfl, hb⟩; have H2 := Lib.hid (bl H1.out hb); clear hb))
    go_ret
    exact ⟨rfl, H2.out⟩
  | false =>
    rw [hG] at HGR
    have HGF := Lib.hid hG
    clear hG
    by_cases hE : encW l bs k = 0
    · have HE := Lib.hid (fun y n c n' c' a a' hB hK => enc_good y l n c n' c' a a' bs k hB hK hE)
      have HF := Lib.hid (And.intro (wrap_pos hE) (And.intro (enc_zero.1 hE).2.2.2 (And.intro (fun m (hm : m < _) => dec_cut hE hm) (And.intro (enc_dec hE) (fun ys (hy : ys ≠ []) => dec_more hE hy)))))
      clear hE
      generalize wrap l bs k.form = F at *
      obtain ⟨N, hN⟩ : ∃ N, F.length = N := ⟨_, rfl⟩
      rw [hN] at HE HF
      have HN := Lib.hid hN
      clear hN
      have hlen : ((N : Int) == 0) = false := by
        have h1 := HF.out.1
        have : ¬ (N : Int) = 0 := by omega
        simpa using this
      have hu : IntKind.u64.wrap (N : Int) = (N : Int) := by
        have h1 := HF.out.2.1
        show (N : Int) % 18446744073709551616 = _; omega
      have hN0 : ¬ N = 0 := by have := HF.out.1; omega
      go_enter Tryd.func4, Tryd.ntmps4
      go_upto_region 9 with (first
        | (go_at_call 16; (with_reducible refine HGR.out.mono ?_); rintro e y1 ⟨rfl, hb⟩; have H1 := Lib.hid (bl HB0.out hb); obtain ⟨k0, k1, k2, _, _, _⟩ := HX0.out.keep hb; clear hb HGR)
        | (go_at_call 17; (with_reducible refine (copied_walk _ l n c n' c' a a' bs k (HBB.out.keep (keep_below H1.out)) (HK.out.keep (keep_below H1.out)) (great_tot HGF.out)).mono ?_); rintro e y2 ⟨⟨a3, n3, c3, a4, n4, c4, rfl, hB3, hK3⟩, hb⟩; have H2 := Lib.hid (bl H1.out hb); have H3 := Lib.hid (And.intro (hB3.keep (see_keep _ _)) (hK3.keep (see_keep _ _))); clear hb hB3 hK3 k0 k1 k2)
        | (go_at_call 13; (with_reducible refine (HE.out _ _ _ _ _ _ _ H3.out.1 H3.out.2).mono ?_); rintro e y4 ⟨a5, c5, rfl, hO, hb⟩; have H4 := Lib.hid (bl H2.out hb); have H5 := Lib.hid hO; clear hb hO H3))
      obtain ⟨m, hm, hmN⟩ : ∃ m : Nat, wrap64 ((IntKind.u64.wrap at').tmod (N : Int)) = m ∧ m < N := by
        have h0 : (0 : Int) ≤ IntKind.u64.wrap at' := by show 0 ≤ at' % 18446744073709551616; omega
        have h1 := Int.tmod_eq_emod_of_nonneg (b := (N : Int)) h0
        have h2 := Int.emod_nonneg (IntKind.u64.wrap at') (b := (N : Int)) (by have := HF.out.1; omega)
        have h3 := Int.emod_lt_of_pos (IntKind.u64.wrap at') (b := (N : Int)) (by have := HF.out.1; omega)
        have h4 := HF.out.2.1
        rw [h1]
        generalize (IntKind.u64.wrap at') % (N : Int) = r at *
        refine ⟨r.toNat, ?_, by omega⟩
        unfold wrap64; omega
      rw [hm]
      have hBs : IsB y4 a5 N c5 F := by have := H5.out.asB; exact this
      obtain ⟨b5, o5, rfl⟩ : ∃ b o, a5 = some ⟨b, o, none⟩ := by
        rcases hBs.2.2.2.2 with h | ⟨b, o, e, _⟩
        · exact absurd h hN0
        · exact ⟨b, o, e⟩
      have HBS := Lib.hid hBs
      have hc0 : ¬ c5 = 0 := by have := hBs.2.1; omega
      have hmc : (m : Int) ≤ (c5 : Int) := by have := hBs.2.1; omega
      have hm0 : (0 : Int) ≤ (m : Int) := by omega
      obtain ⟨p1, w1, hd1⟩ := HF.out.2.2.1 m hmN
      obtain ⟨T, hT⟩ : ∃ T, F.take m = T := ⟨_, rfl⟩
      rw [hT] at hd1
      have HTL := Lib.hid (show T.length = m by rw [← hT]; have := HN.out; simp; omega)
      have HT : Hid (∀ y, Below y4.heap.size y4 y → IsB y (some ⟨b5, o5, none⟩) m c5 T) := Lib.hid (fun y hy => by
        have := (hBs.sub (i := 0) (m := m) (by omega)).keep (keep_below hy)
        rw [← hT]
        simpa [slc] using this)
      have HD1 := Lib.hid hd1
      have HM1 := Lib.hid hmN
      clear hBs hm hw hlen hu hT hd1 hmN
      by_cases hms : ms = []
      · have hnb : nb = 0 := by rw [HMM.out.1.1, hms]; rfl
        subst hms
        subst hnb
        have HGG := Lib.hid (List.append_nil F)
        have HD2 := Lib.hid HF.out.2.2.2.1
        go_wp2_with (first
          | (refine wpList_appB rfl (.tmp 41) (.tmp 44) rfl w.heap.size (.slice (some ⟨y4.heap.size, 0, none⟩) 0 0) [] rfl (own_none y4 _ H4.out.size) (some ⟨b5, o5, none⟩) m c5 T rfl (HT.out _ (ba _ _)) (by have h1 := HF.out.2.1; have h2 := HM1.out; have h3 := HTL.out; simp; omega) (by have := H4.out.size; simp; omega) ?_
             intro V6 y6 hO hg hat
             rw [List.nil_append] at hO
             obtain ⟨a6, c6, rfl, hB6⟩ := hO.isB
             have H6b := Lib.hid (show Below y4.heap.size y4 y6 from (ba y4 (.cells #[] 5)).grown hg (ba _ _).size (fun k hk => by cases hk; exact Nat.le_refl _))
             have HB6 := Lib.hid hB6
             clear hO hg hat hB6)
          | (go_at_call 14; first
             | ((with_reducible refine (decode_walk _ _ _ _ _ HB6.out).mono ?_); rintro e y7 ⟨hd, hb⟩; rw [HD1.out] at hd; obtain ⟨_, rfl, q7, rfl, _, _, _⟩ := hd
                have H7 := Lib.hid (bl (bl (bl H4.out H6b.out) hb) (ba y7 (.cells #[.bool false, .slice none 0 0, .slice none 0 0] 25)))
                have H7b := Lib.hid (bl (bl H6b.out hb) (ba y7 (.cells #[.bool false, .slice none 0 0, .slice none 0 0] 25)))
                unfold zIt
                clear hb HB6 H6b)
             | ((with_reducible refine (decode_walk _ _ _ _ _ HB9.out).mono ?_); rintro e yA ⟨hd, hb⟩; rw [HD2.out] at hd; obtain ⟨aA, nA, cA, aB, nB, cB, rfl, _, _⟩ := hd
                have HA := Lib.hid (bl H9.out hb)
                clear hb HB9))
          | (refine wpList_appB rfl (.tmp 50) (.tmp 51) rfl w.heap.size (.slice (some ⟨y7.heap.size + 1, 0, none⟩) 0 0) [] rfl (own_nx _ _ _ H7.out.size) (some ⟨b5, o5, none⟩) N c5 F rfl (HBS.out.keep (keep_below (bl H7b.out (ba _ _)))) (by have h1 := HF.out.2.1; have h2 := HN.out; simp; omega) (bl H7.out (ba _ (.cells #[] 5))).size ?_
             intro V8 y8 hO hg hat
             rw [List.nil_append] at hO
             have HO8 := Lib.hid hO
             have H8 := Lib.hid (show Below w.heap.size w y8 from ((H7.out.alloc H7.out.size (.cells #[] 5))).grown hg (H7.out.alloc H7.out.size (.cells #[] 5)).size (fun k hk => by cases hk; have h1 := H7.out.size; simp at h1; exact h1))
             clear hO hg hat)
          | (refine wpList_appW rfl (.tmp 52) (.tmp 53) rfl w.heap.size V8 F rfl HO8.out ab 0 cb [] rfl (HMM.out.1.keep (keep_below H8.out)) (by have h1 := HF.out.2.1; have h2 := HN.out; have h3 := HMM.out.1.1; have h4 := HMM.out.2; have h5 : reachBytes = 140737488351232 := (by decide); simp; omega) H8.out.size ?_
             intro V9 y9 hO hg hat
             rw [HGG.out] at hO
             obtain ⟨a9, c9, rfl, hB9⟩ := hO.isB
             have HB9 := Lib.hid hB9
             have H9 := Lib.hid (H8.out.grown hg H8.out.size (fun k hk => (HO8.out.base hk).1))
             clear hO hg hat hB9)
          | (go_at_call 15; (with_reducible refine (fixed_walk _ (HG.out.next (bl HA.out (ba _ _)))).mono ?_); rintro e yB ⟨rfl, hb⟩; have HB := Lib.hid (bl (bl HA.out (ba _ _)) hb); clear hb))
        go_ret
        exact ⟨rfl, HB.out⟩
      · obtain ⟨p2, w2, hd2⟩ := HF.out.2.2.2.2 ms hms
        obtain ⟨G, hG⟩ : ∃ G, F ++ ms = G := ⟨_, rfl⟩
        rw [hG] at hd2
        have HD2 := Lib.hid hd2
        have HGG := Lib.hid hG
        have hnb : (0 : Int) < (nb : Int) := by
          have h1 := HMM.out.1.1
          have : 0 < ms.length := List.length_pos_iff.2 hms
          omega
        clear hms hd2 hG
        go_wp2_with (first
          | (refine wpList_appB rfl (.tmp 41) (.tmp 44) rfl w.heap.size (.slice (some ⟨y4.heap.size, 0, none⟩) 0 0) [] rfl (own_none y4 _ H4.out.size) (some ⟨b5, o5, none⟩) m c5 T rfl (HT.out _ (ba _ _)) (by have h1 := HF.out.2.1; have h2 := HM1.out; have h3 := HTL.out; simp; omega) (by have := H4.out.size; simp; omega) ?_
             intro V6 y6 hO hg hat
             rw [List.nil_append] at hO
             obtain ⟨a6, c6, rfl, hB6⟩ := hO.isB
             have H6b := Lib.hid (show Below y4.heap.size y4 y6 from (ba y4 (.cells #[] 5)).grown hg (ba _ _).size (fun k hk => by cases hk; exact Nat.le_refl _))
             have HB6 := Lib.hid hB6
             clear hO hg hat hB6)
          | (go_at_call 14; first
             | ((with_reducible refine (decode_walk _ _ _ _ _ HB6.out).mono ?_); rintro e y7 ⟨hd, hb⟩; rw [HD1.out] at hd; obtain ⟨_, rfl, q7, rfl, _, _, _⟩ := hd
                have H7 := Lib.hid (bl (bl (bl H4.out H6b.out) hb) (ba y7 (.cells #[.bool false, .slice none 0 0, .slice none 0 0] 25)))
                have H7b := Lib.hid (bl (bl H6b.out hb) (ba y7 (.cells #[.bool false, .slice none 0 0, .slice none 0 0] 25)))
                unfold zIt
                clear hb HB6 H6b)
             | ((with_reducible refine (decode_walk _ _ _ _ _ HB9.out).mono ?_); rintro e yA ⟨hd, hb⟩; rw [HD2.out] at hd; obtain ⟨_, rfl, q8, rfl, _, _, _⟩ := hd; unfold zIt
                have HA := Lib.hid (bl H9.out hb)
                clear hb HB9))
          | (refine wpList_appB rfl (.tmp 50) (.tmp 51) rfl w.heap.size (.slice (some ⟨y7.heap.size + 1, 0, none⟩) 0 0) [] rfl (own_nx _ _ _ H7.out.size) (some ⟨b5, o5, none⟩) N c5 F rfl (HBS.out.keep (keep_below (bl H7b.out (ba _ _)))) (by have h1 := HF.out.2.1; have h2 := HN.out; simp; omega) (bl H7.out (ba _ (.cells #[] 5))).size ?_
             intro V8 y8 hO hg hat
             rw [List.nil_append] at hO
             have HO8 := Lib.hid hO
             have H8 := Lib.hid (show Below w.heap.size w y8 from ((H7.out.alloc H7.out.size (.cells #[] 5))).grown hg (H7.out.alloc H7.out.size (.cells #[] 5)).size (fun k hk => by cases hk; have h1 := H7.out.size; simp at h1; exact h1))
             clear hO hg hat)
          | (refine wpList_appW rfl (.tmp 52) (.tmp 53) rfl w.heap.size V8 F rfl HO8.out ab nb cb ms rfl (HMM.out.1.keep (keep_below H8.out)) (by have h1 := HF.out.2.1; have h2 := HN.out; have h3 := HMM.out.1.1; have h4 := HMM.out.2; have h5 : reachBytes = 140737488351232 := (by decide); omega) H8.out.size ?_
             intro V9 y9 hO hg hat
             rw [HGG.out] at hO
             obtain ⟨a9, c9, rfl, hB9⟩ := hO.isB
             have HB9 := Lib.hid hB9
             have H9 := Lib.hid (H8.out.grown hg H8.out.size (fun k hk => (HO8.out.base hk).1))
             clear hO hg hat hB9)
          | (go_at_call 15; (with_reducible refine (fixed_walk _ (HG.out.next (bl HA.out (ba _ _)))).mono ?_); rintro e yB ⟨rfl, hb⟩; have HB := Lib.hid (bl (bl HA.out (ba _ _)) hb); clear hb))
        go_ret
        refine ⟨?_, HB.out⟩
        show Ending.returned (.bool (decide (0 < nb))) = _
        rw [decide_eq_true (show 0 < nb by omega)]
    · have HE := Lib.hid (fun y n c n' c' a a' hB hK => enc_bad y l n c n' c' a a' bs k hB hK HGF.out hE)
      go_enter Tryd.func4, Tryd.ntmps4
      go_wp2_with (first
        | (go_at_call 16; (with_reducible refine HGR.out.mono ?_); rintro e y1 ⟨rfl, hb⟩; have H1 := Lib.hid (bl HB0.out hb); obtain ⟨k0, k1, k2, _, _, _⟩ := HX0.out.keep hb; clear hb HGR)
        | (go_at_call 17; (with_reducible refine (copied_walk _ l n c n' c' a a' bs k (HBB.out.keep (keep_below H1.out)) (HK.out.keep (keep_below H1.out)) (great_tot HGF.out)).mono ?_); rintro e y2 ⟨⟨a3, n3, c3, a4, n4, c4, rfl, hB3, hK3⟩, hb⟩; have H2 := Lib.hid (bl H1.out hb); have H3 := Lib.hid (And.intro (hB3.keep (see_keep _ _)) (hK3.keep (see_keep _ _))); clear hb hB3 hK3 k0 k1 k2)
        | (go_at_call 13; (with_reducible refine (HE.out _ _ _ _ _ _ _ H3.out.1 H3.out.2).mono ?_); rintro e y4 ⟨⟨a5, c5, rfl⟩, hb⟩; unfold eN; have H4 := Lib.hid (bl H2.out hb); clear hb H3)
        | (go_at_call 15; (with_reducible refine (fixed_walk _ (HG.out.next H4.out)).mono ?_); rintro e y5 ⟨rfl, hb⟩; have H5 := Lib.hid (bl H4.out hb); clear hb))
      go_ret
      exact ⟨rfl, H5.out⟩
end Rl
end Go.Proofs.YthlmjcochpodgaaDoor
