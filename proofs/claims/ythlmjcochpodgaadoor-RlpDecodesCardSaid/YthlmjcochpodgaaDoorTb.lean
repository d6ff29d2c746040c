/-
  mootref03.Reader.item: too deep; one small byte. Own work.
-/
import Derived.Test.YthlmjcochpodgaaDoorTa
namespace Go.Proofs.YthlmjcochpodgaaDoor
open Go.ChangeShapes Go.WideShapes Go.Deep Go.RowKit
set_option linter.unusedVariables false
set_option linter.unusedSimpArgs false
namespace Rl
set_option maxRecDepth 100000 in
theorem ritem_deep (w : World) (q : Nat) (V D : Value) (i : Nat) (e : Int) (hX : Box4 w q V (.int .i64 i) (.int .i64 0) D) :
    Calls Tryd.prog 38 #[.pointer (some ⟨q, 0, none⟩), .int .i64 e, .int .i64 16] w fun r w' => r = .returned zIt ∧ Kept (fun b => b = q) w w' ∧ Box4 w' q V (.int .i64 i) (.int .i64 13) (.int .i64 i) := by
  have HX := Lib.hid (hX.keep (ba w (.cells #[.bool false, .slice none 0 0, .slice none 0 0] 25)))
  have hl := hX.lt
  obtain ⟨k0, k1, k2, k3, f0, f1, f2, f3⟩ := hX.keep (ba w (.cells #[.bool false, .slice none 0 0, .slice none 0 0] 25))
  have hne : ¬ q = w.heap.size := by omega
  have HB := Lib.hid (Box3.new w (.bool false) (.slice none 0 0) (.slice none 0 0) 25)
  have HK := Lib.hid ((Kept.refl (fun b => b = q) w).alloc (.cells #[.bool false, .slice none 0 0, .slice none 0 0] 25))
  have hw1 : w.heap.size < (w.alloc (.cells #[.bool false, .slice none 0 0, .slice none 0 0] 25)).heap.size := by simp
  have HW1 := Lib.hid hw1
  have HNE := Lib.hid hne
  clear hl hX hw1 hne
  go_enter Tryd.func38, Tryd.ntmps38
  go_wp2_with (go_at_call 39; (with_reducible refine (rfail_walk _ q V _ D i 13 HX.out).mono ?_); rintro r y1 ⟨rfl, hk, hb⟩
               have X1 : Box3 y1 w.heap.size (.bool false) (.slice none 0 0) (.slice none 0 0) := HB.out.kept hk (fun e => HNE.out e.symm)
               have H1 := Lib.hid (HK.out.trans hk (fun i _ h => h)); have HX1 := Lib.hid hb; obtain ⟨g0, g1, g2, e0, e1, e2⟩ := X1; clear hk hb HX; unfold zIt)
  have X := (Box3.mk g0 g1 g2 e0 e1 e2).put (.bool false) (.slice none 0 0) (.slice none 0 0)
  refine bodyPost_ret (v := zIt) (by simp [results, Tryd.results38, go_sem, zIt, X.k0, X.k1, X.k2]) rfl ⟨rfl, kept_put3 H1.out (.inr (Nat.le_refl _)) _ _ _, HX1.out.put_other HNE.out _ _ _⟩
set_option maxRecDepth 100000 in
/-- A byte below 128 is its own form. -/
theorem ritem_small (w : World) (q b o N c : Nat) (bs : List Bt) (D : Value) (i e d : Nat) (hX : Box4 w q (.slice (some ⟨b, o, none⟩) N c) (.int .i64 i) (.int .i64 0) D) (hB : IsB w (some ⟨b, o, none⟩) N c bs) (hq : b ≠ q) (hd : d < 16) (hi : i < e) (he : e ≤ N) (hN : N ≤ 4096) (hs : at' bs i < 128) :
    Calls Tryd.prog 38 #[.pointer (some ⟨q, 0, none⟩), .int .i64 e, .int .i64 d] w fun r w' => (∃ g, r = .returned (.agg #[.bool false, .slice (some ⟨g, 0, none⟩) 1 1, .slice none 0 0]) ∧ w.heap.size ≤ g ∧ w'.cell? ⟨g, 0, none⟩ = some (.int .u8 ((at' bs i : Nat) : Int))) ∧ Kept (fun b => b = q) w w' ∧ Box4 w' q (.slice (some ⟨b, o, none⟩) N c) (.int .i64 (i + 1 : Nat)) (.int .i64 0) D := by
  have HX := Lib.hid (hX.keep (ba w (.cells #[.bool false, .slice none 0 0, .slice none 0 0] 25)))
  have hl := hX.lt
  obtain ⟨k0, k1, k2, k3, f0, f1, f2, f3⟩ := hX.keep (ba w (.cells #[.bool false, .slice none 0 0, .slice none 0 0] 25))
  have hne : ¬ q = w.heap.size := by omega
  have HNE := Lib.hid hne
  obtain ⟨b0, o0, e0, hc⟩ := hB.cellAt (j := i) (by omega)
  injection e0 with e0
  injection e0 with e1 e2
  subst e1 e2
  have hcell : (w.alloc (.cells #[.bool false, .slice none 0 0, .slice none 0 0] 25)).cell? ⟨b, o + i, none⟩ = some (.int .u8 ((at' bs i : Nat) : Int)) := keep1 (ba w (.cells #[.bool false, .slice none 0 0, .slice none 0 0] 25)) hc
  have h16 : ((d : Int) == 16) = false := by simp; omega
  have h1 : (i : Int) < N := by omega
  have h128 : ((at' bs i : Nat) : Int) < 128 := by omega
  have hw1 : wrap64 ((i : Int) + 1) = ((i + 1 : Nat) : Int) := by unfold wrap64; omega
  have hX1 : wrap64 ((at' bs i : Nat) : Int) = ((at' bs i : Nat) : Int) := by unfold wrap64; omega
  have hX2 : ((at' bs i : Nat) : Int) % 256 = ((at' bs i : Nat) : Int) := by omega
  generalize ((at' bs i : Nat) : Int) = X at *
  generalize i + 1 = J at *
  clear hl hX hB hc hne hd he hN hs hi hq
  go_enter Tryd.func38, Tryd.ntmps38
  go_upto_region 7 with (fail)
  have X4 := HX.out.put1 (.int .i64 J)
  have X3 := (Box3.new w (.bool false) (.slice none 0 0) (.slice none 0 0) 25).other (o := 1) HNE.out (.int .i64 J)
  have KK := ((Kept.refl (fun b => b = q) w).alloc (.cells #[.bool false, .slice none 0 0, .slice none 0 0] 25)).setCell (p := ⟨q, 1, none⟩) (.inl rfl) (.int .i64 J)
  have hz : w.heap.size < ((w.alloc (.cells #[.bool false, .slice none 0 0, .slice none 0 0] 25)).setCell ⟨q, 1, none⟩ (.int .i64 J)).heap.size := by rw [size_setCell]; simp
  clear k0 k1 k2 k3 f0 f1 f2 f3 HX hcell
  generalize (w.alloc (.cells #[.bool false, .slice none 0 0, .slice none 0 0] 25)).setCell ⟨q, 1, none⟩ (.int .i64 J) = W2 at *
  obtain ⟨g0, g1, g2, e0, e1, e2⟩ := X3.keep (ba W2 (.cells #[.int .u8 X] 5))
  have X4 := Lib.hid (X4.keep (ba W2 (.cells #[.int .u8 X] 5)))
  have KK := Lib.hid (KK.alloc (.cells #[.int .u8 X] 5))
  have HZ := Lib.hid hz
  clear hz
  go_wp2_with (fail)
  have Y := (Box3.mk g0 g1 g2 e0 e1 e2).put (.bool false) (.slice (some ⟨W2.heap.size, 0, none⟩) 1 1) (.slice none 0 0)
  refine bodyPost_ret (v := .agg #[.bool false, .slice (some ⟨W2.heap.size, 0, none⟩) 1 1, .slice none 0 0]) (by simp [results, Tryd.results38, go_sem, Y.k0, Y.k1, Y.k2]) rfl ⟨⟨_, rfl, Nat.le_of_lt HZ.out, ?_⟩, kept_put3 KK.out (.inr (Nat.le_refl _)) _ _ _, X4.out.put_other HNE.out _ _ _⟩
  rw [put3_other _ _ _ _ _ (by have := HZ.out; omega)]; simp
end Rl
end Go.Proofs.YthlmjcochpodgaaDoor
