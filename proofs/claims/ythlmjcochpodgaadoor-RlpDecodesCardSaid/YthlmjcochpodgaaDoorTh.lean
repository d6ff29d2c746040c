/-
  RlpDecodes. Own work.
-/
import Derived.Test.YthlmjcochpodgaaDoorTg
import Derived.Test.YthlmjcochpodgaaDoorLe
namespace Go.Proofs.YthlmjcochpodgaaDoor
open Go.ChangeShapes Go.WideShapes Go.Deep Go.RowKit
set_option linter.unusedVariables false
set_option linter.unusedSimpArgs false
namespace Rl
theorem hd_ne {b : List Bt} {i e : Nat} {k : Int} (h : Rl.hd b i e = .bad k) : k ≠ 0 := by
  unfold Rl.hd hdL at h
  repeat' split at h
  all_goals first
    | (injection h with h1; omega)
    | cases h
/-- What is wrong has a number. -/
theorem bad_ne (b : List Bt) : ∀ f : Nat,
    (∀ i e d p k, i < e → e ≤ b.length → 2 * (e - i) + 1 ≤ f → one b f i e d = .bad p k → k ≠ 0) ∧
    (∀ i e d p k, i ≤ e → e ≤ b.length → 2 * (e - i) + 2 ≤ f → items b f i e d = .bad p k → k ≠ 0) := by
  intro f
  induction f with
  | zero => exact ⟨fun i e d p k _ _ h => by omega, fun i e d p k _ _ h => by omega⟩
  | succ f ih =>
    constructor
    · intro i e d p k hi he hf h
      by_cases hd16 : 16 ≤ d
      · rw [one_deep hd16] at h; injection h with _ h; omega
      · cases hh : Rl.hd b i e with
        | bad w => rw [one_bad (by omega) hh] at h; injection h with _ h; subst h; exact hd_ne hh
        | ok l s n =>
          obtain ⟨h1, h2, _⟩ := hd_ok hi he hh
          cases l with
          | false => rw [one_text (by omega) hh] at h; cases h
          | true =>
            rw [one_list (by omega) hh] at h
            have h3 := hd_skip hh
            cases hk : items b f (i + s) (i + s + n) (d + 1) with
            | ok r => rw [hk] at h; cases h
            | bad p' w' =>
              rw [hk] at h
              injection h with _ h
              subst h
              exact ih.2 _ _ _ _ _ (by omega) (by omega) (by omega) hk
    · intro i e d p k hi he hf h
      by_cases hie : e ≤ i
      · rw [items_end hie] at h; cases h
      · cases ho : one b f i e d with
        | bad p' w' => rw [items_bad (by omega) ho] at h; injection h with _ h; subst h; exact ih.1 _ _ _ _ _ (by omega) he (by omega) ho
        | ok l x kk j =>
          rw [items_ok (by omega) ho] at h
          have hn := one_next (by omega) he ho
          cases hk : items b f j e d with
          | ok r => rw [hk] at h; cases h
          | bad p' w' =>
            rw [hk] at h
            injection h with _ h
            subst h
            exact ih.2 _ _ _ _ _ (by omega) he (by omega) hk
theorem dec_ne {b : List Bt} {p : Nat} {k : Int} (h : dec b = .bad p k) : k ≠ 0 := by
  unfold dec at h
  split at h
  · injection h with _ h; omega
  · split at h
    · injection h with _ h; omega
    · rename_i h1 h2
      cases ho : one b (4 * b.length + 4) 0 b.length 0 with
      | bad p' w' => rw [ho] at h; injection h with _ h; subst h; exact (bad_ne b _).1 _ _ _ _ _ (by omega) (Nat.le_refl _) (by omega) ho
      | ok l x kk j =>
        rw [ho] at h
        have h : (if j < b.length then R1.bad j 11 else .ok l x kk j) = .bad p k := h
        split at h
        · injection h with _ h; omega
        · cases h
/-- What the loop over the copied bytes keeps. -/
structure Ink (w : World) (g N j B9 q1 q2 : Nat) (l : Bool) (a3 : Option Addr) (n3 c3 : Nat) (a4 : Option Addr) (n4 c4 : Nat) (a5 : Option Addr) (n5 c5 : Nat) (a6 : Option Addr) (n6 c6 : Nat) (bs : List Bt) (k : Fo) (y : World) : Prop where
  below : Below w.heap.size w y
  b1 : Box3 y q1 (.bool l) (.slice a3 n3 c3) (.slice a4 n4 c4)
  b2 : Box3 y q2 (.bool l) (.slice a5 n5 c5) (.slice a6 n6 c6)
  i1 : IsB (see (fun b => B9 ≤ b) y) a3 n3 c3 bs
  i2 : IsK (see (fun b => B9 ≤ b) y) a4 n4 c4 k
  i3 : IsB (see (fun b => B9 ≤ b) y) a5 n5 c5 bs
  i4 : IsK (see (fun b => B9 ≤ b) y) a6 n6 c6 k
  row : ∀ i, j ≤ i → i < N → ∃ v : Bt, y.cell? ⟨g, i, none⟩ = some (bvb v) ∧ y.frozen? ⟨g, i, none⟩ = false
  g0 : w.heap.size ≤ g
  g1 : g < B9
  g2 : B9 ≤ q1
  g3 : B9 ≤ q2
theorem Ink.set {w : World} {g N j B9 q1 q2 : Nat} {l : Bool} {a3 : Option Addr} {n3 c3 : Nat} {a4 : Option Addr} {n4 c4 : Nat} {a5 : Option Addr} {n5 c5 : Nat} {a6 : Option Addr} {n6 c6 : Nat} {bs : List Bt} {k : Fo} {y : World} (h : Ink w g N j B9 q1 q2 l a3 n3 c3 a4 n4 c4 a5 n5 c5 a6 n6 c6 bs k y) (v : Value) : Ink w g N (j + 1) B9 q1 q2 l a3 n3 c3 a4 n4 c4 a5 n5 c5 a6 n6 c6 bs k (y.setCell ⟨g, j, none⟩ v) := by
  have h1 := h.g1
  have h2 := h.g2
  have h3 := h.g3
  have ho : ∀ p i, p ≠ g → (y.setCell ⟨g, j, none⟩ v).cell? ⟨p, i, none⟩ = y.cell? ⟨p, i, none⟩ := fun p i hp => World.cell?_setCell_other _ _ _ _ (fun e => hp (congrArg Addr.block e).symm)
  have hk : Keep (see (fun b => B9 ≤ b) y) (see (fun b => B9 ≤ b) (y.setCell ⟨g, j, none⟩ v)) := keep_see fun b o x g1 g2 => ⟨g1, by rw [ho b o (by omega)]; exact g2⟩
  have hx : ∀ p a b c, p ≠ g → Box3 y p a b c → Box3 (y.setCell ⟨g, j, none⟩ v) p a b c := fun p a b c hp b' =>
    ⟨(ho _ 0 hp).trans b'.k0, (ho _ 1 hp).trans b'.k1, (ho _ 2 hp).trans b'.k2, by simpa using b'.f0, by simpa using b'.f1, by simpa using b'.f2⟩
  refine ⟨h.below.setCell h.g0 _, hx _ _ _ _ (by omega) h.b1, hx _ _ _ _ (by omega) h.b2, h.i1.keep hk, h.i2.keep hk, h.i3.keep hk, h.i4.keep hk, fun i h3 h4 => ?_, h.g0, h1, h2, h3⟩
  obtain ⟨x, h5, h6⟩ := h.row i (by omega) h4
  refine ⟨x, ?_, by simpa using h6⟩
  rw [World.cell?_setCell_other _ _ _ _ (fun e => by have := congrArg Addr.off e; simp at this; omega)]; exact h5
set_option maxHeartbeats 4000000 in
set_option maxRecDepth 100000 in
theorem rlpDecodes_walk (w : World) (a : Option Addr) (n c : Nat) (bs : List Bt) (hB : IsB w a n c bs) (hm : n ≤ reachBytes) (hg : Et w) :
    Calls Tryd.prog 8 #[.slice a n c] w fun e w' => e = .returned (.bool true) ∧ Below w.heap.size w w' := by
  have HBB := Lib.hid hB
  have HG := Lib.hid hg
  have HO0 := Lib.hid (own_none w w.heap.size (Nat.le_refl _))
  have HB0 := Lib.hid (ba w (.cells #[] 5))
  have HM := Lib.hid (show ([] : List Bt).length + bs.length ≤ 140737488355328 by have := hB.1; simp only [reachBytes] at hm; simp; omega)
  have HEN : Hid (n = bs.length) := Lib.hid hB.1
  clear hB hg hm
  cases hD : dec bs with
  | bad p k =>
    have HD := Lib.hid (fun y a n c (h : IsB y a n c bs) => show Calls Tryd.prog 14 #[.slice a n c] y fun r w' => decOut y.heap.size w' (.bad p k) r ∧ Below y.heap.size y w' from by have := decode_walk y a n c bs h; rwa [hD] at this)
    have HRD := Lib.hid (fun y a n c (h : IsB y a n c bs) => show Calls Tryd.prog 21 #[.slice a n c] y fun r w' => rdOut y.heap.size w' (.bad p k) r ∧ Below y.heap.size y w' from by have := rdecode_walk y a n c bs h; rwa [hD] at this)
    have hk : (k != 0) = true := by simpa using dec_ne hD
    clear hD
    go_enter Tryd.func8, Tryd.ntmps8
    go_wp2_with (first
      | (refine wpList_appW rfl (.tmp 13) (.tmp 14) rfl w.heap.size _ [] rfl HO0.out a n c bs rfl (HBB.out.keep (keep_below HB0.out)) HM.out HB0.out.size ?_
         intro V1 y1 hO1 hg1 hat1
         rw [List.nil_append] at hO1
         obtain ⟨a1, c1, rfl, hB1⟩ := hO1.isB
         have H1 := Lib.hid (HB0.out.grown hg1 HB0.out.size (fun k hk => by cases hk; exact Nat.le_refl _))
         have HB1 := Lib.hid hB1
         clear hO1 hg1 hat1 hB1)
      | (go_at_call 14; (with_reducible refine (HD.out _ _ _ _ HB1.out).mono ?_); rintro e y2 ⟨⟨_, rfl, q2, rfl, hq2, hc1, hc2⟩, hb⟩
         have hba := ba y2 (.cells #[.bool false, .slice none 0 0, .slice none 0 0] 25)
         have H2 := Lib.hid (bl (bl H1.out hb) hba)
         have HB2 := Lib.hid (HB1.out.keep (keep_below (bl hb hba)))
         have HF2 := Lib.hid (And.intro (keep1 hba hc1) (keep1 hba hc2))
         have HX2 := Lib.hid (Box3.new y2 (.bool false) (.slice none 0 0) (.slice none 0 0) 25)
         unfold zIt
         clear hb hba hq2 hc1 hc2)
      | (go_at_call 21; (with_reducible refine (HRD.out _ _ _ _ (HBB.out.keep (keep_below H2.out))).mono ?_); rintro e y4 ⟨he4, hb⟩; obtain rfl : e = _ := he4
         have hba := ba y4 (.cells #[.bool false, .slice none 0 0, .slice none 0 0] 25)
         have H4 := Lib.hid (bl (bl H2.out hb) hba)
         have HB4 := Lib.hid (HB2.out.keep (keep_below (bl hb hba)))
         have HF4 := Lib.hid (And.intro (keep1 (bl hb hba) HF2.out.1) (keep1 (bl hb hba) HF2.out.2))
         have HX4 := Lib.hid (HX2.out.keep (bl hb hba))
         have HY4 := Lib.hid (Box3.new y4 (.bool false) (.slice none 0 0) (.slice none 0 0) 25)
         unfold zIt
         clear hb hba)
      | (go_at_call 19; (with_reducible refine (why_flt _ q2 p k (HG.out.next H4.out) HF4.out.1 HF4.out.2).mono ?_); rintro e y5 ⟨rfl, hb⟩
         have H5 := Lib.hid (bl H4.out hb); have HB5 := Lib.hid (HB4.out.keep (keep_below hb)); have HX5 := Lib.hid (HX4.out.keep hb); have HY5 := Lib.hid (HY4.out.keep hb); clear hb)
      | (go_at_call 15; (with_reducible refine (fixed_walk _ (HG.out.next H5.out)).mono ?_); rintro e y6 ⟨rfl, hb⟩
         have H6 := Lib.hid (bl H5.out hb); have HB6 := Lib.hid (HB5.out.keep (keep_below hb)); have HX6 := Lib.hid (HX5.out.keep hb); have HY6 := Lib.hid (HY5.out.keep hb)
         obtain ⟨k0, k1, k2, _, _, _⟩ := HX6.out
         obtain ⟨x0, x1, x2, _, _, _⟩ := HY6.out
         clear hb)
      | (go_at_call 20; (with_reducible refine (same_walk _ false 0 0 0 0 none none [] .nil false 0 0 0 0 none none [] .nil (noB _) (noK _) (noB _) (noK _)).mono ?_); rintro e y7 ⟨rfl, hb⟩; rw [show same false [] .nil false [] .nil = true from same_true.2 ⟨rfl, rfl, rfl⟩]
         have H7 := Lib.hid (bl H6.out hb); have v1 := conv_str (HB6.out.keep (keep_below hb)); have v2 := conv_str (HBB.out.keep (keep_below H7.out)); clear hb))
    go_ret
    exact ⟨rfl, H7.out⟩
  | ok l x k j =>
    obtain ⟨hj, hw, hE⟩ := dec_ok hD
    have hN4 : bs.length ≤ 4096 := by have := (enc_zero.1 hE).2.2.2; rw [hw] at this; exact this
    have hN0 : 0 < bs.length := by have := wrap_pos hE; rw [hw] at this; exact this
    have HD := Lib.hid (fun y a n c (h : IsB y a n c bs) => show Calls Tryd.prog 14 #[.slice a n c] y fun r w' => decOut y.heap.size w' (.ok l x k j) r ∧ Below y.heap.size y w' from by have := decode_walk y a n c bs h; rwa [hD] at this)
    have HRD := Lib.hid (fun y a n c (h : IsB y a n c bs) => show Calls Tryd.prog 21 #[.slice a n c] y fun r w' => rdOut y.heap.size w' (.ok l x k j) r ∧ Below y.heap.size y w' from by have := rdecode_walk y a n c bs h; rwa [hD] at this)
    have HEN2 := Lib.hid (fun y n c n' c' a a' (h1 : IsB y a n c x) (h2 : IsK y a' n' c' k) => show Calls Tryd.prog 13 #[.agg #[.bool l, .slice a n c, .slice a' n' c']] y fun e w' => ∃ a5 c5, e = .returned (.tuple #[.slice a5 bs.length c5, .nilIface]) ∧ Own w' y.heap.size (.slice a5 bs.length c5) bs ∧ Below y.heap.size y w' from by have := enc_good y l n c n' c' a a' x k h1 h2 hE; rwa [hw] at this)
    have HN := Lib.hid (And.intro hN0 hN4)
    clear hD hj hw hE hN0 hN4
    generalize hNN : bs.length = N at *
    go_enter Tryd.func8, Tryd.ntmps8
    go_upto_region 9 with (first
      | (refine wpList_appW rfl (.tmp 13) (.tmp 14) rfl w.heap.size _ [] rfl HO0.out a n c bs rfl (HBB.out.keep (keep_below HB0.out)) (by rw [hNN]; exact HM.out) HB0.out.size ?_
         intro V1 y1 hO1 hg1 hat1
         rw [List.nil_append] at hO1
         obtain ⟨a1, c1, rfl, hB1⟩ := hO1.isB
         rw [hNN] at hB1 hO1
         have H1 := Lib.hid (HB0.out.grown hg1 HB0.out.size (fun k hk => by cases hk; exact Nat.le_refl _))
         have HB1 := Lib.hid hB1
         have HO1 := Lib.hid hO1
         clear hO1 hg1 hat1 hB1)
      | (go_at_call 14; (with_reducible refine (HD.out _ _ _ _ HB1.out).mono ?_); rintro e y2 ⟨⟨a3, n3, c3, a4, n4, c4, rfl, hB3, hK3⟩, hb⟩
         have hba := ba y2 (.cells #[.bool l, .slice a3 n3 c3, .slice a4 n4 c4] 25)
         have H2 := Lib.hid (bl (bl H1.out hb) hba)
         have HZ2 := Lib.hid hb.size
         have HO2 := Lib.hid (HO1.out.below (bl hb hba))
         have HI2 := Lib.hid (And.intro (hB3.keep (see_below hba)) (hK3.keep (see_below hba)))
         have HX2 := Lib.hid (Box3.new y2 (.bool l) (.slice a3 n3 c3) (.slice a4 n4 c4) 25)
         clear hb hba hB3 hK3)
      | (go_at_call 21; (with_reducible refine (HRD.out _ _ _ _ (HBB.out.keep (keep_below H2.out))).mono ?_); rintro e y4 ⟨⟨a5, n5, c5, a6, n6, c6, rfl, hB5, hK5⟩, hb⟩
         have hba := ba y4 (.cells #[.bool l, .slice a5 n5 c5, .slice a6 n6 c6] 25)
         have hsee : Keep (see (fun b => (y2.alloc (.cells #[.bool l, .slice a3 n3 c3, .slice a4 n4 c4] 25)).heap.size ≤ b) (y4.alloc (.cells #[.bool l, .slice a5 n5 c5, .slice a6 n6 c6] 25))) (see (fun b => y1.heap.size ≤ b) (y4.alloc (.cells #[.bool l, .slice a5 n5 c5, .slice a6 n6 c6] 25))) := keep_mono fun b _ h => by have := HZ2.out; simp at h; omega
         have H4 := Lib.hid (bl (bl H2.out hb) hba)
         have HZ4 := Lib.hid (show y1.heap.size ≤ y4.heap.size by have := HZ2.out; have := hb.size; simp at this; omega)
         have HO4 := Lib.hid (HO2.out.below (bl hb hba))
         have HI4 := Lib.hid (And.intro (HI2.out.1.keep (see_below (bl hb hba))) (HI2.out.2.keep (see_below (bl hb hba))))
         have HJ4 := Lib.hid (And.intro ((hB5.keep (see_below hba)).keep hsee) ((hK5.keep (see_below hba)).keep hsee))
         have HX4 := Lib.hid (HX2.out.keep (bl hb hba))
         have HY4 := Lib.hid (Box3.new y4 (.bool l) (.slice a5 n5 c5) (.slice a6 n6 c6) 25)
         clear hb hba hB5 hK5 hsee)
      | (go_at_call 19; (with_reducible refine (why_nil _).mono ?_); rintro e y5 ⟨rfl, rfl⟩)
      | (go_at_call 15; (with_reducible refine (fixed_walk _ (HG.out.next H4.out)).mono ?_); rintro e y6 ⟨rfl, hb⟩
         have H6 := Lib.hid (bl H4.out hb); have HO6 := Lib.hid (HO4.out.below hb); have HX6 := Lib.hid (HX4.out.keep hb); have HY6 := Lib.hid (HY4.out.keep hb)
         have HI6 := Lib.hid (And.intro (HI4.out.1.keep (see_below hb)) (HI4.out.2.keep (see_below hb)))
         have HJ6 := Lib.hid (And.intro (HJ4.out.1.keep (see_below hb)) (HJ4.out.2.keep (see_below hb)))
         obtain ⟨k0, k1, k2, _, _, _⟩ := HX6.out
         obtain ⟨x0, x1, x2, _, _, _⟩ := HY6.out
         clear hb)
      | (go_at_call 20; (with_reducible refine (same_walk _ l n3 c3 n4 c4 a3 a4 x k l n5 c5 n6 c6 a5 a6 x k (HI6.out.1.keep (see_keep _ _)) (HI6.out.2.keep (see_keep _ _)) (HJ6.out.1.keep (see_keep _ _)) (HJ6.out.2.keep (see_keep _ _))).mono ?_); rintro e y7 ⟨rfl, hb⟩; rw [show same l x k l x k = true from same_true.2 ⟨rfl, rfl, rfl⟩]
         have H7 := Lib.hid (bl H6.out hb); have v1 := conv_str (HO6.out.below hb).asB; have v2 := conv_str (HBB.out.keep (keep_below H7.out))
         have HO7 := Lib.hid (HO6.out.below hb); have HX7 := Lib.hid (HX6.out.keep hb); have HY7 := Lib.hid (HY6.out.keep hb)
         have HI7 := Lib.hid (And.intro (HI6.out.1.keep (see_below hb)) (HI6.out.2.keep (see_below hb)))
         have HJ7 := Lib.hid (And.intro (HJ6.out.1.keep (see_below hb)) (HJ6.out.2.keep (see_below hb)))
         clear hb k0 k1 k2 x0 x1 x2))
    clear v1 v2
    obtain ⟨a1, rfl⟩ : ∃ z, a1 = some z := by
      rcases HO7.out.asB.2.2.2.2 with h | ⟨b, o, e, _⟩
      · have := HN.out.1; omega
      · exact ⟨_, e⟩
    obtain ⟨g, rfl, hg1, hg2, hrow⟩ := HO7.out.cells_at
    rw [hNN] at hrow
    have hg3 : g < y1.heap.size := (HO1.out.base (k := g) rfl).2
    have HInk := Lib.hid (show Ink w g N 0 y1.heap.size y2.heap.size y4.heap.size l a3 n3 c3 a4 n4 c4 a5 n5 c5 a6 n6 c6 x k y7 from
      ⟨H7.out, HX7.out, HY7.out, HI7.out.1, HI7.out.2, HJ7.out.1, HJ7.out.2, fun i _ h => hrow i h, hg1, hg3, HZ2.out, HZ4.out⟩)
    clear hrow hg1 hg2 hg3
    go_wp2_with (fail)
    go_loopw [65] (fun i y => ∃ j : Nat, i = .int .i64 j ∧ Hid (j ≤ N ∧ Ink w g N j y1.heap.size y2.heap.size y4.heap.size l a3 n3 c3 a4 n4 c4 a5 n5 c5 a6 n6 c6 x k y)) (fun i _ => N - (intOf i).toNat)
    case atStart => exact ⟨0, rfl, Lib.hid ⟨Nat.zero_le _, HInk.out⟩⟩
    case round =>
      obtain ⟨j, rfl, hp⟩ := hrel
      clear HInk
      by_cases hlt : (j : Int) < (N : Int)
      · obtain ⟨v, hv, hz⟩ := hp.out.2.row j (Nat.le_refl _) (by omega)
        unfold bvb at hv
        have HJ := Lib.hid (show j < N ∧ wrap64 ((j : Int) + 1) = ((j + 1 : Nat) : Int) by
          refine ⟨by omega, ?_⟩
          have := HN.out.2; unfold wrap64; omega)
        go_wp2_with (fail)
        go_roundw
        case rel => exact ⟨j + 1, by rw [HJ.out.2], Lib.hid ⟨HJ.out.1, hp.out.2.set _⟩⟩
        case measure => rw [HJ.out.2]; have := HJ.out.1; simp [intOf]; omega
      · have HK := Lib.hid hp.out.2
        obtain ⟨k0, k1, k2, _, _, _⟩ := hp.out.2.b1
        clear hp
        go_wp2_with (first
          | (go_at_call 13; (with_reducible refine (HEN2.out _ _ _ _ _ _ _ (HK.out.i1.keep (see_keep _ _)) (HK.out.i2.keep (see_keep _ _))).mono ?_); rintro e y8 ⟨a7, c7, rfl, hO, hb⟩
             have H8 := Lib.hid (bl HK.out.below hb)
             have v1 := conv_str hO.asB
             have v2 := conv_str (HBB.out.keep (keep_below H8.out))
             have HI8 := Lib.hid (And.intro (HK.out.i1.keep (see_below hb)) (HK.out.i2.keep (see_below hb)))
             have HJ8 := Lib.hid (And.intro (HK.out.i3.keep (see_below hb)) (HK.out.i4.keep (see_below hb)))
             clear k0 k1 k2
             obtain ⟨k0, k1, k2, _, _, _⟩ := HK.out.b1.keep hb
             obtain ⟨x0, x1, x2, _, _, _⟩ := HK.out.b2.keep hb
             clear hb hO)
          | (go_at_call 20; (with_reducible refine (same_walk _ l n3 c3 n4 c4 a3 a4 x k l n5 c5 n6 c6 a5 a6 x k (HI8.out.1.keep (see_keep _ _)) (HI8.out.2.keep (see_keep _ _)) (HJ8.out.1.keep (see_keep _ _)) (HJ8.out.2.keep (see_keep _ _))).mono ?_); rintro e y9 ⟨rfl, hb⟩; rw [show same l x k l x k = true from same_true.2 ⟨rfl, rfl, rfl⟩]
             have H9 := Lib.hid (bl H8.out hb); clear hb))
        go_ret
        exact ⟨rfl, H9.out⟩
end Rl
end Go.Proofs.YthlmjcochpodgaaDoor
