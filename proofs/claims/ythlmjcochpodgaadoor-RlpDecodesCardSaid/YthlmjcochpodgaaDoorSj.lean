/-
  rlp: item, of bytes. Own work.
-/
import Derived.Test.YthlmjcochpodgaaDoorSi
namespace Go.Proofs.YthlmjcochpodgaaDoor
open Go.ChangeShapes Go.WideShapes Go.Deep Go.RowKit
set_option linter.unusedVariables false
set_option linter.unusedSimpArgs false
namespace Rl
theorem Own.isBs {w : World} {B : Nat} {V : Value} {bs : List Bt} (h : Own w B V bs) : ∃ a c, V = .slice a bs.length c ∧ IsB (see (fun b => B ≤ b) w) a bs.length c bs := by
  obtain ⟨a, c, e, h1, h2, h3, h4, h5⟩ := h.isB
  refine ⟨a, c, e, h1, h2, h3, h4, h5.imp id ?_⟩
  rintro ⟨b, o, rfl, h6⟩
  have hb := h.base (k := b) (by rw [e]; rfl)
  exact ⟨b, o, rfl, fun i x hx => by rw [see_in (show B ≤ b from hb.1)]; exact h6 i x hx⟩
theorem put3_up (w : World) (B : Nat) (a b c : Value) : Keep (see (fun b => B + 1 ≤ b) w) (see (fun b => B ≤ b) (put3 w B a b c)) :=
  keep_see fun p o v h1 h2 => ⟨by omega, by rw [put3_other _ _ _ _ _ (by omega)]; exact h2⟩
theorem slc_le (bs : List Bt) (p n : Nat) : (slc bs p n).length ≤ n := by simp [slc]; omega
theorem sub_in {w : World} {b o e c p q n : Nat} {bs : List Bt} (h : IsB w (some ⟨b, o, none⟩) e c bs) (hq : p + n = q) (he : q ≤ e) : IsB w (some ⟨b, o + p, none⟩) (q - p) (c - p) (slc bs p n) := by
  rw [show q - p = n by omega]; exact h.sub (by omega)
theorem sub_end {w : World} {b o e c p q n : Nat} {bs : List Bt} (h : IsB w (some ⟨b, o, none⟩) e c bs) (hc : c = p) (hq : p + n = q) (he : q ≤ e) : IsB w (some ⟨b, o, none⟩) (q - p) 0 (slc bs p n) := by
  have h2 := h.2.1
  have h3 := h.2.2.1
  have hn : n = 0 := by omega
  subst hn
  have e1 : slc bs p 0 = [] := by simp [slc]
  rw [e1]
  exact ⟨by show q - p = 0; omega, by omega, by omega, fun e => (by cases e), .inl (by omega)⟩
set_option maxHeartbeats 2000000 in
set_option maxRecDepth 100000 in
theorem item_text (w : World) (b o i e c d s n : Nat) (bs : List Bt) (hB : IsB w (some ⟨b, o, none⟩) e c bs) (hd : d < 16) (hi : i < e) (he : e ≤ 4096) (hsn : i + s + n ≤ e)
    (hh : ∀ y, Below w.heap.size w y → Calls Tryd.prog 43 #[.slice (some ⟨b, o + i, none⟩) (e - i) (c - i)] y fun r w' => r = .returned (.tuple #[hv false s n, .nilIface]) ∧ Below y.heap.size y w') :
    Calls Tryd.prog 31 #[.slice (some ⟨b, o, none⟩) e c, .int .i64 i, .int .i64 d] w fun r w' => itOut w.heap.size w' (.ok false (slc bs (i + s) n) .nil (i + s + n)) r ∧ Below w.heap.size w w' := by
  have h1 : decide ((16 : Int) ≤ d) = false := by simp; omega
  have h2 : (i : Int) ≤ e := by omega
  have hc := hB.2.1
  have h3 : (e : Int) ≤ c := by omega
  have h4 : ¬ c = i := by omega
  have HH := Lib.hid hh
  have HB0 : Hid (Below w.heap.size w (w.alloc (.cells #[.bool false, .slice none 0 0, .slice none 0 0] 25))) := Lib.hid ((Below.refl _ _).alloc (Nat.le_refl _) _)
  have hw1 : wrap64 ((i : Int) + s) = ((i + s : Nat) : Int) := by unfold wrap64; omega
  have hw2 : wrap64 (((i + s : Nat) : Int) + n) = ((i + s + n : Nat) : Int) := by unfold wrap64; omega
  have hq2 : ((i + s + n : Nat) : Int) ≤ e := by omega
  have hq1 : ((i + s : Nat) : Int) ≤ ((i + s + n : Nat) : Int) := by omega
  have HB := Lib.hid hB
  have HN := Lib.hid (And.intro hsn he)
  clear hd hh hB hsn hc hi he
  generalize hp : i + s = p at *
  generalize hq : p + n = q at *
  have HQ := Lib.hid (And.intro hp hq)
  clear hp hq
  go_enter Tryd.func31, Tryd.ntmps31
  go_upto_region 9 with (go_at_call 43; (with_reducible refine (HH.out _ HB0.out).mono ?_); rintro r y1 ⟨rfl, hb⟩; have H1 := Lib.hid (bl HB0.out hb)
                         have X1 := Lib.hid (((Box3.new w (.bool false) (.slice none 0 0) (.slice none 0 0) 25).keep hb).keep (ba y1 (.cells #[.bool false, .int .i64 s, .int .i64 n] 83)))
                         unfold hv; clear hb HH)
  rw [hw1, hw2]
  clear hw1 hw2 h1 h4
  by_cases hcp : c = p
  · have HC := Lib.hid (And.intro hcp (show q = p by have := HN.out; have := HQ.out; have := HB.out.2.1; omega))
    obtain ⟨k0, k1, k2, f0, f1, f2⟩ := X1.out
    have hqp : q = p := HC.out.2
    clear hq1 hq2 h3
    subst hqp
    subst hcp
    go_wp2_with (fail)
    have X := (Box3.mk k0 k1 k2 f0 f1 f2).put (.bool false) (.slice none 0 0) (.slice none 0 0)
    have hn : n = 0 := by have := HQ.out; omega
    have e1 : slc bs c n = [] := by simp [slc, hn]
    rw [e1]
    refine bodyPost_ret (v := .tuple #[.agg #[.bool false, .slice none 0 0, .slice none 0 0], .int .i64 c, .nilIface]) (by simp [results, Tryd.results31, go_sem, X.k0, X.k1, X.k2]) rfl ⟨⟨none, 0, 0, none, 0, 0, rfl, ⟨rfl, Nat.le_refl _, by decide, fun _ => rfl, .inl rfl⟩, rfl, Nat.le_refl _, by decide, fun _ => rfl, .inl rfl⟩, put3_below (H1.out.alloc H1.out.size _) (Nat.le_refl _)⟩
  · skip
    go_wp2_with (refine wpList_appB rfl (.const (.slice none 0 0)) (.tmp 54) rfl (w.heap.size + 1) (.slice none 0 0) [] rfl (Own.nil _ _) _ (q - p) _ (slc bs p n) rfl (IsB.keep (w := w) (sub_in HB.out HQ.out.2 HN.out.1) (keep_below (H1.out.alloc H1.out.size _))) (by have := HN.out; have := slc_le bs p n; have := HQ.out; simp; omega) (by have := inHeap X1.out.k0; simp at this; simp; omega) ?_
                 intro V2 y2 hO2 hg hat
                 rw [List.nil_append] at hO2
                 obtain ⟨a2, c2, rfl, hB2⟩ := hO2.isBs
                 have HO2 := Lib.hid hB2
                 have H2 := Lib.hid ((H1.out.alloc H1.out.size _).grown hg (by have := H1.out.size; simp; omega) (fun k hk => by cases hk))
                 obtain ⟨k0, k1, k2, f0, f1, f2⟩ := X1.out.grown hg (by simp [Value.ownBlock])
                 clear hO2 hB2 hg hat)
    have X := (Box3.mk k0 k1 k2 f0 f1 f2).put (.bool false) (.slice a2 (slc bs p n).length c2) (.slice none 0 0)
    refine bodyPost_ret (v := .tuple #[.agg #[.bool false, .slice a2 (slc bs p n).length c2, .slice none 0 0], .int .i64 q, .nilIface]) (by simp [results, Tryd.results31, go_sem, X.k0, X.k1, X.k2]) rfl ⟨⟨a2, _, c2, none, 0, 0, rfl, HO2.out.keep (put3_up _ _ _ _ _), rfl, Nat.le_refl _, by decide, fun _ => rfl, .inl rfl⟩, put3_below H2.out (Nat.le_refl _)⟩
end Rl
end Go.Proofs.YthlmjcochpodgaaDoor
