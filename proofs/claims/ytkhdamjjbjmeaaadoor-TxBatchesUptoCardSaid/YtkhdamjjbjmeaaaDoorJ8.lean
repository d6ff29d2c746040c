/- RLP: merged. Own work. -/
import Derived.Test.YtkhdamjjbjmeaaaDoorJ7
namespace Go.Proofs.YtkhdamjjbjmeaaaDoor
open Go.ChangeShapes Go.WideShapes Go.Deep Go.RowKit
set_option linter.unusedVariables false
set_option linter.unusedSimpArgs false
namespace Rl
/-- A box of four cells that may be written. -/
structure Box4 (w : World) (q : Nat) (a b c d : Value) : Prop where
  k0 : w.cell? ⟨q, 0, none⟩ = some a
  k1 : w.cell? ⟨q, 1, none⟩ = some b
  k2 : w.cell? ⟨q, 2, none⟩ = some c
  k3 : w.cell? ⟨q, 3, none⟩ = some d
  f0 : w.frozen? ⟨q, 0, none⟩ = false
  f1 : w.frozen? ⟨q, 1, none⟩ = false
  f2 : w.frozen? ⟨q, 2, none⟩ = false
  f3 : w.frozen? ⟨q, 3, none⟩ = false
theorem Box4.keep {w w' : World} {q : Nat} {a b c d : Value} (h : Box4 w q a b c d) (hb : Below w.heap.size w w') : Box4 w' q a b c d :=
  have hl := inHeap h.k0
  ⟨keep1 hb h.k0, keep1 hb h.k1, keep1 hb h.k2, keep1 hb h.k3, keepF hb hl h.f0, keepF hb hl h.f1, keepF hb hl h.f2, keepF hb hl h.f3⟩
theorem Box4.grown {w w' : World} {row : Option Nat} {q : Nat} {a b c d : Value} (h : Box4 w q a b c d) (hg : w.grownBy w' row) (hr : row ≠ some q) : Box4 w' q a b c d :=
  have hl := inHeap h.k0
  ⟨(grown_cell hg hl hr).trans h.k0, (grown_cell hg hl hr).trans h.k1, (grown_cell hg hl hr).trans h.k2, (grown_cell hg hl hr).trans h.k3, (grown_frozen hg hl hr).trans h.f0, (grown_frozen hg hl hr).trans h.f1, (grown_frozen hg hl hr).trans h.f2, (grown_frozen hg hl hr).trans h.f3⟩
theorem Box4.new (w : World) (a b c d : Value) (t : TypeId) : Box4 (w.alloc (.cells #[a, b, c, d] t)) w.heap.size a b c d := ⟨by simp, by simp, by simp, by simp, by simp, by simp, by simp, by simp⟩
theorem Box4.lt {w : World} {q : Nat} {a b c d : Value} (h : Box4 w q a b c d) : q < w.heap.size := inHeap h.k0
theorem Box4.kept {S : Nat → Prop} {w w' : World} {q : Nat} {a b c d : Value} (h : Box4 w q a b c d) (hk : Kept S w w') (hn : ¬ S q) : Box4 w' q a b c d :=
  ⟨hk.cell hn h.k0, hk.cell hn h.k1, hk.cell hn h.k2, hk.cell hn h.k3, (hk.frozen hn h.lt).trans h.f0, (hk.frozen hn h.lt).trans h.f1, (hk.frozen hn h.lt).trans h.f2, (hk.frozen hn h.lt).trans h.f3⟩
/-- The place is written. -/
theorem Box4.put1 {w : World} {q : Nat} {a b c d : Value} (h : Box4 w q a b c d) (b' : Value) : Box4 (w.setCell ⟨q, 1, none⟩ b') q a b' c d :=
  ⟨by rw [World.cell?_setCell_other _ _ _ _ (by simp)]; exact h.k0, World.cell?_setCell_same _ _ _ h.k1, by rw [World.cell?_setCell_other _ _ _ _ (by simp)]; exact h.k2, by rw [World.cell?_setCell_other _ _ _ _ (by simp)]; exact h.k3,
    by simpa using h.f0, by simpa using h.f1, by simpa using h.f2, by simpa using h.f3⟩
theorem Box4.put2 {w : World} {q : Nat} {a b c d : Value} (h : Box4 w q a b c d) (b' : Value) : Box4 (w.setCell ⟨q, 2, none⟩ b') q a b b' d :=
  ⟨by rw [World.cell?_setCell_other _ _ _ _ (by simp)]; exact h.k0, by rw [World.cell?_setCell_other _ _ _ _ (by simp)]; exact h.k1, World.cell?_setCell_same _ _ _ h.k2, by rw [World.cell?_setCell_other _ _ _ _ (by simp)]; exact h.k3,
    by simpa using h.f0, by simpa using h.f1, by simpa using h.f2, by simpa using h.f3⟩
theorem Box4.put3 {w : World} {q : Nat} {a b c d : Value} (h : Box4 w q a b c d) (b' : Value) : Box4 (w.setCell ⟨q, 3, none⟩ b') q a b c b' :=
  ⟨by rw [World.cell?_setCell_other _ _ _ _ (by simp)]; exact h.k0, by rw [World.cell?_setCell_other _ _ _ _ (by simp)]; exact h.k1, by rw [World.cell?_setCell_other _ _ _ _ (by simp)]; exact h.k2, World.cell?_setCell_same _ _ _ h.k3,
    by simpa using h.f0, by simpa using h.f1, by simpa using h.f2, by simpa using h.f3⟩
/-- Writing another block's three cells. -/
theorem Box4.put_other {w : World} {q p : Nat} {a b c d : Value} (h : Box4 w q a b c d) (hp : q ≠ p) (a' b' c' : Value) : Box4 (Rl.put3 w p a' b' c') q a b c d :=
  ⟨(put3_other _ _ _ _ _ hp).trans h.k0, (put3_other _ _ _ _ _ hp).trans h.k1, (put3_other _ _ _ _ _ hp).trans h.k2, (put3_other _ _ _ _ _ hp).trans h.k3, by simpa [Rl.put3] using h.f0, by simpa [Rl.put3] using h.f1, by simpa [Rl.put3] using h.f2, by simpa [Rl.put3] using h.f3⟩
theorem Box3.other {w : World} {q p o : Nat} {a b c : Value} (h : Box3 w q a b c) (hp : p ≠ q) (u : Value) : Box3 (w.setCell ⟨p, o, none⟩ u) q a b c :=
  ⟨by rw [World.cell?_setCell_other _ _ _ _ (fun e => hp (congrArg Addr.block e))]; exact h.k0, by rw [World.cell?_setCell_other _ _ _ _ (fun e => hp (congrArg Addr.block e))]; exact h.k1,
    by rw [World.cell?_setCell_other _ _ _ _ (fun e => hp (congrArg Addr.block e))]; exact h.k2, by simpa using h.f0, by simpa using h.f1, by simpa using h.f2⟩
theorem Box3.kept {S : Nat → Prop} {w w' : World} {q : Nat} {a b c : Value} (h : Box3 w q a b c) (hk : Kept S w w') (hn : ¬ S q) : Box3 w' q a b c :=
  have hl := inHeap h.k0
  ⟨hk.cell hn h.k0, hk.cell hn h.k1, hk.cell hn h.k2, (hk.frozen hn hl).trans h.f0, (hk.frozen hn hl).trans h.f1, (hk.frozen hn hl).trans h.f2⟩
theorem kept_put3 {S : Nat → Prop} {a b : World} {q : Nat} (h : Kept S a b) (hq : S q ∨ a.heap.size ≤ q) (x y z : Value) : Kept S a (Rl.put3 b q x y z) :=
  have h1 := h.setCell (p := ⟨q, 0, none⟩) hq x
  have h2 := h1.setCell (p := ⟨q, 1, none⟩) hq y
  h2.setCell (p := ⟨q, 2, none⟩) hq z
set_option maxRecDepth 100000 in
/-- fail, while nothing is wrong yet. -/
theorem rfail_walk (w : World) (q : Nat) (V A D : Value) (p : Nat) (k : Int) (hX : Box4 w q V A (.int .i64 0) D) :
    Calls Tryd.prog 61 #[.pointer (some ⟨q, 0, none⟩), .int .i64 p, .int .i64 k] w fun e w' => e = .returned zIt ∧ Kept (fun b => b = q) w w' ∧ Box4 w' q V A (.int .i64 k) (.int .i64 p) := by
  have HX := Lib.hid hX
  have hl := hX.lt
  obtain ⟨k0, k1, k2, k3, f0, f1, f2, f3⟩ := hX.keep (ba w (.cells #[.bool false, .slice none 0 0, .slice none 0 0] 79))
  have hne : ¬ q = w.heap.size := by omega
  have hne2 : ¬ w.heap.size = q := by omega
  have HL := Lib.hid hl
  clear hl hX
  go_enter Tryd.func61, Tryd.ntmps61
  go_wp2_with (fail)
  have X := (((Box3.new w (.bool false) (.slice none 0 0) (.slice none 0 0) 79).other (o := 2) hne (.int .i64 k)).other (o := 3) hne (.int .i64 p)).put (.bool false) (.slice none 0 0) (.slice none 0 0)
  have Z := (((HX.out.keep (ba w (.cells #[.bool false, .slice none 0 0, .slice none 0 0] 79))).put2 (.int .i64 k)).put3 (.int .i64 p)).put_other hne (.bool false) (.slice none 0 0) (.slice none 0 0)
  refine bodyPost_ret (v := zIt) (by simp [results, Tryd.results61, go_sem, zIt, X.k0, X.k1, X.k2]) rfl ⟨rfl, ?_, Z⟩
  have a1 := (Kept.refl (fun b => b = q) w).alloc (.cells #[.bool false, .slice none 0 0, .slice none 0 0] 79)
  have a2 := a1.setCell (p := ⟨q, 2, none⟩) (.inl rfl) (.int .i64 k)
  have a3 := a2.setCell (p := ⟨q, 3, none⟩) (.inl rfl) (.int .i64 p)
  exact kept_put3 a3 (.inr (Nat.le_refl _)) _ _ _
end Rl
end Go.Proofs.YtkhdamjjbjmeaaaDoor
namespace Go.Proofs.YtkhdamjjbjmeaaaDoor
open Go.ChangeShapes Go.WideShapes Go.Deep Go.RowKit
set_option linter.unusedVariables false
set_option linter.unusedSimpArgs false
namespace Rl
set_option maxRecDepth 100000 in
theorem ritem_deep (w : World) (q : Nat) (V D : Value) (i : Nat) (e : Int) (hX : Box4 w q V (.int .i64 i) (.int .i64 0) D) :
    Calls Tryd.prog 60 #[.pointer (some ⟨q, 0, none⟩), .int .i64 e, .int .i64 16] w fun r w' => r = .returned zIt ∧ Kept (fun b => b = q) w w' ∧ Box4 w' q V (.int .i64 i) (.int .i64 13) (.int .i64 i) := by
  have HX := Lib.hid (hX.keep (ba w (.cells #[.bool false, .slice none 0 0, .slice none 0 0] 79)))
  have hl := hX.lt
  obtain ⟨k0, k1, k2, k3, f0, f1, f2, f3⟩ := hX.keep (ba w (.cells #[.bool false, .slice none 0 0, .slice none 0 0] 79))
  have hne : ¬ q = w.heap.size := by omega
  have HB := Lib.hid (Box3.new w (.bool false) (.slice none 0 0) (.slice none 0 0) 79)
  have HK := Lib.hid ((Kept.refl (fun b => b = q) w).alloc (.cells #[.bool false, .slice none 0 0, .slice none 0 0] 79))
  have hw1 : w.heap.size < (w.alloc (.cells #[.bool false, .slice none 0 0, .slice none 0 0] 79)).heap.size := by simp
  have HW1 := Lib.hid hw1
  have HNE := Lib.hid hne
  clear hl hX hw1 hne
  go_enter Tryd.func60, Tryd.ntmps60
  go_wp2_with (go_at_call 61; (with_reducible refine (rfail_walk _ q V _ D i 13 HX.out).mono ?_); rintro r y1 ⟨rfl, hk, hb⟩
               have X1 : Box3 y1 w.heap.size (.bool false) (.slice none 0 0) (.slice none 0 0) := HB.out.kept hk (fun e => HNE.out e.symm)
               have H1 := Lib.hid (HK.out.trans hk (fun i _ h => h)); have HX1 := Lib.hid hb; obtain ⟨g0, g1, g2, e0, e1, e2⟩ := X1; clear hk hb HX; unfold zIt)
  have X := (Box3.mk g0 g1 g2 e0 e1 e2).put (.bool false) (.slice none 0 0) (.slice none 0 0)
  refine bodyPost_ret (v := zIt) (by simp [results, Tryd.results60, go_sem, zIt, X.k0, X.k1, X.k2]) rfl ⟨rfl, kept_put3 H1.out (.inr (Nat.le_refl _)) _ _ _, HX1.out.put_other HNE.out _ _ _⟩
set_option maxRecDepth 100000 in
/-- A byte below 128 is its own form. -/
theorem ritem_small (w : World) (q b o N c : Nat) (bs : List Bt) (D : Value) (i e d : Nat) (hX : Box4 w q (.slice (some ⟨b, o, none⟩) N c) (.int .i64 i) (.int .i64 0) D) (hB : IsB w (some ⟨b, o, none⟩) N c bs) (hq : b ≠ q) (hd : d < 16) (hi : i < e) (he : e ≤ N) (hN : N ≤ 4096) (hs : at' bs i < 128) :
    Calls Tryd.prog 60 #[.pointer (some ⟨q, 0, none⟩), .int .i64 e, .int .i64 d] w fun r w' => (∃ g, r = .returned (.agg #[.bool false, .slice (some ⟨g, 0, none⟩) 1 1, .slice none 0 0]) ∧ w.heap.size ≤ g ∧ w'.cell? ⟨g, 0, none⟩ = some (.int .u8 ((at' bs i : Nat) : Int))) ∧ Kept (fun b => b = q) w w' ∧ Box4 w' q (.slice (some ⟨b, o, none⟩) N c) (.int .i64 (i + 1 : Nat)) (.int .i64 0) D := by
  have HX := Lib.hid (hX.keep (ba w (.cells #[.bool false, .slice none 0 0, .slice none 0 0] 79)))
  have hl := hX.lt
  obtain ⟨k0, k1, k2, k3, f0, f1, f2, f3⟩ := hX.keep (ba w (.cells #[.bool false, .slice none 0 0, .slice none 0 0] 79))
  have hne : ¬ q = w.heap.size := by omega
  have HNE := Lib.hid hne
  obtain ⟨b0, o0, e0, hc⟩ := hB.cellAt (j := i) (by omega)
  injection e0 with e0
  injection e0 with e1 e2
  subst e1 e2
  have hcell : (w.alloc (.cells #[.bool false, .slice none 0 0, .slice none 0 0] 79)).cell? ⟨b, o + i, none⟩ = some (.int .u8 ((at' bs i : Nat) : Int)) := keep1 (ba w (.cells #[.bool false, .slice none 0 0, .slice none 0 0] 79)) hc
  have h16 : ((d : Int) == 16) = false := by simp; omega
  have h1 : (i : Int) < N := by omega
  have h128 : ((at' bs i : Nat) : Int) < 128 := by omega
  have hw1 : wrap64 ((i : Int) + 1) = ((i + 1 : Nat) : Int) := by unfold wrap64; omega
  have hX1 : wrap64 ((at' bs i : Nat) : Int) = ((at' bs i : Nat) : Int) := by unfold wrap64; omega
  have hX2 : ((at' bs i : Nat) : Int) % 256 = ((at' bs i : Nat) : Int) := by omega
  generalize ((at' bs i : Nat) : Int) = X at *
  generalize i + 1 = J at *
  clear hl hX hB hc hne hd he hN hs hi hq
  go_enter Tryd.func60, Tryd.ntmps60
  go_upto_region 7 with (fail)
  have X4 := HX.out.put1 (.int .i64 J)
  have X3 := (Box3.new w (.bool false) (.slice none 0 0) (.slice none 0 0) 79).other (o := 1) HNE.out (.int .i64 J)
  have KK := ((Kept.refl (fun b => b = q) w).alloc (.cells #[.bool false, .slice none 0 0, .slice none 0 0] 79)).setCell (p := ⟨q, 1, none⟩) (.inl rfl) (.int .i64 J)
  have hz : w.heap.size < ((w.alloc (.cells #[.bool false, .slice none 0 0, .slice none 0 0] 79)).setCell ⟨q, 1, none⟩ (.int .i64 J)).heap.size := by rw [size_setCell]; simp
  clear k0 k1 k2 k3 f0 f1 f2 f3 HX hcell
  generalize (w.alloc (.cells #[.bool false, .slice none 0 0, .slice none 0 0] 79)).setCell ⟨q, 1, none⟩ (.int .i64 J) = W2 at *
  obtain ⟨g0, g1, g2, e0, e1, e2⟩ := X3.keep (ba W2 (.cells #[.int .u8 X] 5))
  have X4 := Lib.hid (X4.keep (ba W2 (.cells #[.int .u8 X] 5)))
  have KK := Lib.hid (KK.alloc (.cells #[.int .u8 X] 5))
  have HZ := Lib.hid hz
  clear hz
  go_wp2_with (fail)
  have Y := (Box3.mk g0 g1 g2 e0 e1 e2).put (.bool false) (.slice (some ⟨W2.heap.size, 0, none⟩) 1 1) (.slice none 0 0)
  refine bodyPost_ret (v := .agg #[.bool false, .slice (some ⟨W2.heap.size, 0, none⟩) 1 1, .slice none 0 0]) (by simp [results, Tryd.results60, go_sem, Y.k0, Y.k1, Y.k2]) rfl ⟨⟨_, rfl, Nat.le_of_lt HZ.out, ?_⟩, kept_put3 KK.out (.inr (Nat.le_refl _)) _ _ _, X4.out.put_other HNE.out _ _ _⟩
  rw [put3_other _ _ _ _ _ (by have := HZ.out; omega)]; simp
end Rl
end Go.Proofs.YtkhdamjjbjmeaaaDoor
namespace Go.Proofs.YtkhdamjjbjmeaaaDoor
open Go.ChangeShapes Go.WideShapes Go.Deep Go.RowKit
set_option linter.unusedVariables false
set_option linter.unusedSimpArgs false
namespace Rl
theorem hd_short {b : List Bt} {i e n : Nat} {l : Bool} (h : at' b i = sh l + n) (hn : n < 56) : hd b i e = if e < i + 1 + n then .bad 11 else if l = false ∧ n = 1 ∧ at' b (i + 1) < 128 then .bad 12 else .ok l 1 n := by
  cases l with
  | false =>
    rw [sh_f] at h
    unfold hd
    rw [if_neg (by omega), if_pos (by omega), show at' b i - 128 = n by omega]
    simp
  | true =>
    rw [sh_t] at h
    unfold hd
    rw [if_neg (by omega), if_neg (by omega), if_neg (by omega), if_pos (by omega), show at' b i - 192 = n by omega]
    simp
theorem hd_long {b : List Bt} {i e n : Nat} {l : Bool} (h : at' b i = sh l + n) (hn : 56 ≤ n) (hn2 : n < 64) : hd b i e = hdL b i e (n - 55) l := by
  cases l with
  | false =>
    rw [sh_f] at h
    unfold hd
    rw [if_neg (by omega), if_neg (by omega), if_pos (by omega), show at' b i - 183 = n - 55 by omega]
  | true =>
    rw [sh_t] at h
    unfold hd
    rw [if_neg (by omega), if_neg (by omega), if_neg (by omega), if_neg (by omega), show at' b i - 247 = n - 55 by omega]
theorem hd_s11 {b : List Bt} {i e n : Nat} {l : Bool} (h : at' b i = sh l + n) (hn : n < 56) (he : e < i + 1 + n) : hd b i e = .bad 11 := by rw [hd_short h hn, if_pos he]
theorem hd_s12 {b : List Bt} {i e : Nat} (h : at' b i = sh false + 1) (he : ¬ e < i + 1 + 1) (hl : at' b (i + 1) < 128) : hd b i e = .bad 12 := by
  rw [hd_short h (by decide), if_neg he, if_pos ⟨rfl, rfl, hl⟩]
theorem hd_sok {b : List Bt} {i e n : Nat} {l : Bool} (h : at' b i = sh l + n) (hn : n < 56) (he : ¬ e < i + 1 + n) (hl : l = true ∨ n ≠ 1 ∨ ¬ at' b (i + 1) < 128) : hd b i e = .ok l 1 n := by
  rw [hd_short h hn, if_neg he, if_neg]
  rintro ⟨h1, h2, h3⟩
  rcases hl with h4 | h4 | h4
  · rw [h4] at h1; cases h1
  · exact h4 h2
  · exact h4 h3
theorem hd_l11 {b : List Bt} {i e k : Nat} {l : Bool} (h : hd b i e = hdL b i e k l) (he : e < i + 1 + k) : hd b i e = .bad 11 := by rw [h]; unfold hdL; rw [if_pos he]
theorem hd_l11b {b : List Bt} {i e k : Nat} {l : Bool} (h : hd b i e = hdL b i e k l) (he : ¬ e < i + 1 + k) (h2 : e < i + 1 + k + num 0 (slc b (i + 1) k)) : hd b i e = .bad 11 := by rw [h]; unfold hdL; rw [if_neg he, if_pos h2]
theorem hd_l12 {b : List Bt} {i e k : Nat} {l : Bool} (h : hd b i e = hdL b i e k l) (he : ¬ e < i + 1 + k) (h2 : ¬ e < i + 1 + k + num 0 (slc b (i + 1) k)) (h3 : at' b (i + 1) = 0 ∨ num 0 (slc b (i + 1) k) < 56) : hd b i e = .bad 12 := by rw [h]; unfold hdL; rw [if_neg he, if_neg h2, if_pos h3]
theorem hd_lok {b : List Bt} {i e k : Nat} {l : Bool} (h : hd b i e = hdL b i e k l) (he : ¬ e < i + 1 + k) (h2 : ¬ e < i + 1 + k + num 0 (slc b (i + 1) k)) (h3 : ¬ (at' b (i + 1) = 0 ∨ num 0 (slc b (i + 1) k) < 56)) : hd b i e = .ok l (1 + k) (num 0 (slc b (i + 1) k)) := by rw [h]; unfold hdL; rw [if_neg he, if_neg h2, if_neg h3]
/-- The reader on its way: its box, the item's own box, what is changed. -/
structure Rdr (w : World) (q : Nat) (V : Value) (i : Nat) (D : Value) (y : World) : Prop where
  box : Box4 y q V (.int .i64 i) (.int .i64 0) D
  res : Box3 y w.heap.size (.bool false) (.slice none 0 0) (.slice none 0 0)
  kept : Kept (fun b => b = q) w y
theorem Rdr.next {w y y' : World} {q i : Nat} {V D : Value} (h : Rdr w q V i D y) (hb : Below y.heap.size y y') : Rdr w q V i D y' :=
  ⟨h.box.keep hb, h.res.keep hb, h.kept.trans (Kept.ofBelow hb : Kept (fun b => b = q) y y') (fun _ _ h => h)⟩
theorem Rdr.lt {w y : World} {q i : Nat} {V D : Value} (h : Rdr w q V i D y) (hq : q < w.heap.size) : q < y.heap.size := Nat.lt_of_lt_of_le hq h.kept.size
theorem Rdr.put {w y : World} {q i : Nat} {V D : Value} (h : Rdr w q V i D y) (hq : q < w.heap.size) (j : Nat) : Rdr w q V j D (y.setCell ⟨q, 1, none⟩ (.int .i64 j)) :=
  ⟨h.box.put1 _, h.res.other (by omega) _, h.kept.setCell (.inl rfl) _⟩
/-- What item answers. -/
def ritOut (B q : Nat) (V D : Value) (y : World) (R : R1) (e : Ending) : Prop :=
  ∃ l x k a n c a' n' c', ∃ (j : Nat) (kk : Int) (D' : Value), e = .returned (.agg #[.bool l, .slice a n c, .slice a' n' c']) ∧ IsB (see (fun b => B ≤ b) y) a n c x ∧ IsK (see (fun b => B ≤ b) y) a' n' c' k ∧ Box4 y q V (.int .i64 j) (.int .i64 kk) D' ∧
    ((R = .ok l x k j ∧ kk = 0 ∧ D' = D) ∨ ∃ p : Nat, R = .bad p kk ∧ kk ≠ 0 ∧ D' = .int .i64 p)
theorem noB (w : World) : IsB w none 0 0 [] := ⟨rfl, Nat.le_refl _, by decide, fun _ => rfl, .inl rfl⟩
theorem noK (w : World) : IsK w none 0 0 .nil := ⟨rfl, Nat.le_refl _, by decide, fun _ => rfl, .inl rfl⟩
theorem ritOut_bad {B q p j : Nat} {V D : Value} {y : World} {k : Int} (hk : k ≠ 0) (h : Box4 y q V (.int .i64 j) (.int .i64 k) (.int .i64 p)) : ritOut B q V D y (.bad p k) (.returned zIt) :=
  ⟨false, [], .nil, none, 0, 0, none, 0, 0, j, k, _, rfl, noB _, noK _, h, .inr ⟨p, rfl, hk, rfl⟩⟩
/-- A failing call's end. -/
theorem rdr_fail {w y : World} {q i : Nat} {V D : Value} (h : Rdr w q V i D y) (hq : q < w.heap.size) (p : Nat) (k : Int) :
    Calls Tryd.prog 61 #[.pointer (some ⟨q, 0, none⟩), .int .i64 p, .int .i64 k] y fun e w' => e = .returned zIt ∧ Hid (Box4 w' q V (.int .i64 i) (.int .i64 k) (.int .i64 p) ∧ Box3 w' w.heap.size (.bool false) (.slice none 0 0) (.slice none 0 0) ∧ Kept (fun b => b = q) w w') :=
  (rfail_walk y q V _ D p k h.box).mono fun e w' ⟨h1, h2, h3⟩ => ⟨h1, Lib.hid ⟨h3, h.res.kept h2 (by omega), h.kept.trans h2 (fun _ _ h => h)⟩⟩
theorem IsB.kept {S : Nat → Prop} {w y : World} {b o N c : Nat} {bs : List Bt} (h : IsB w (some ⟨b, o, none⟩) N c bs) (hk : Kept S w y) (hn : ¬ S b) : IsB y (some ⟨b, o, none⟩) N c bs := by
  obtain ⟨h1, h2, h3, h4, h5⟩ := h
  refine ⟨h1, h2, h3, h4, h5.imp id ?_⟩
  rintro ⟨b', o', e, h6⟩
  injection e with e
  injection e with e1 e2
  subst e1 e2
  exact ⟨_, _, rfl, fun i x hx => hk.cell hn (h6 i x hx)⟩
theorem RowI.kept {S : Nat → Prop} {w w' : World} {B q : Nat} {V : Value} {k : Fo} (h : RowI w B q V k) (hk : Kept S w w') (hS : ∀ b, S b → b < B) : RowI w' B q V k := by
  have hb := fun g hg => (h.base (g := g) hg).1
  obtain ⟨hq, xs, h1, h2⟩ := h
  exact ⟨hq, xs, hk.row h1 (fun k e hs => by have := hS k hs; have := hb k e; omega), h2.keep (keep_see fun b o v g1 g2 => ⟨g1, hk.cell (fun hs => by have := hS b hs; have := g1.1; omega) g2⟩) k xs⟩
/-- What the loop of a list keeps. -/
structure Lrd (w : World) (q : Nat) (Vb : Value) (j : Nat) (kk : Int) (D : Value) (xq : Nat) (V : Value) (acc : Fo) (y : World) : Prop where
  box : Box4 y q Vb (.int .i64 j) (.int .i64 kk) D
  res : Box3 y w.heap.size (.bool false) (.slice none 0 0) (.slice none 0 0)
  it : Box3 y xq (.bool true) (.slice none 0 0) V
  row : RowI y (w.heap.size + 1) xq V acc
  kept : Kept (fun b => b = q) w y
  ne : w.heap.size < xq
  old : q < w.heap.size
section
variable {w : World} {q xq j : Nat} {Vb V V' D : Value} {kk : Int} {acc acc' : Fo} {y y' : World}
theorem Lrd.next (h : Lrd w q Vb j kk D xq V acc y) (hb : Below y.heap.size y y') : Lrd w q Vb j kk D xq V acc y' :=
  ⟨h.box.keep hb, h.res.keep hb, h.it.keep hb, h.row.next hb, h.kept.trans (Kept.ofBelow hb : Kept (fun b => b = q) y y') (fun _ _ h => h), h.ne, h.old⟩
theorem Lrd.drew (h : Lrd w q Vb j kk D xq V acc y) : Lrd w q Vb j kk D xq V acc y.drew := h.next (Below.refl _ _).drew
theorem Lrd.call {j' : Nat} {kk' : Int} {D' : Value} (h : Lrd w q Vb j kk D xq V acc y) (hk : Kept (fun b => b = q) y y') (hb : Box4 y' q Vb (.int .i64 j') (.int .i64 kk') D') : Lrd w q Vb j' kk' D' xq V acc y' :=
  ⟨hb, h.res.kept hk (by have := h.old; omega), h.it.kept hk (by have := h.old; have := h.ne; omega), h.row.kept hk (fun b hb => by have := h.old; omega), h.kept.trans hk (fun _ _ h => h), h.ne, h.old⟩
theorem Lrd.put (h : Lrd w q Vb j kk D xq V acc y) (hg : y.grownBy y' V.ownBlock) (hr : RowI y' (w.heap.size + 1) xq V' acc') : Lrd w q Vb j kk D xq V' acc' (y'.setCell ⟨xq, 2, none⟩ V') := by
  have hx := h.it.grown hg h.row.1
  have hne := h.ne
  have hold := h.old
  have hq : V.ownBlock ≠ some w.heap.size := fun e => by have := (h.row.base e).1; omega
  have hq2 : V.ownBlock ≠ some q := fun e => by have := (h.row.base e).1; omega
  have hs := h.res.grown hg hq
  have hb := h.box.grown hg hq2
  refine ⟨?_, ?_, ?_, hr.set, (h.kept.grown hg (fun k hk => .inr (by have := (h.row.base hk).1; omega))).setCell (.inr (Nat.le_of_lt hne)) _, hne, hold⟩
  · have ho : ∀ i, (y'.setCell ⟨xq, 2, none⟩ V').cell? ⟨q, i, none⟩ = y'.cell? ⟨q, i, none⟩ := fun i => World.cell?_setCell_other _ _ _ _ (fun e => by have := congrArg Addr.block e; simp at this; omega)
    exact ⟨(ho 0).trans hb.k0, (ho 1).trans hb.k1, (ho 2).trans hb.k2, (ho 3).trans hb.k3, by simpa using hb.f0, by simpa using hb.f1, by simpa using hb.f2, by simpa using hb.f3⟩
  · have ho : ∀ i, (y'.setCell ⟨xq, 2, none⟩ V').cell? ⟨w.heap.size, i, none⟩ = y'.cell? ⟨w.heap.size, i, none⟩ := fun i => World.cell?_setCell_other _ _ _ _ (fun e => by have := congrArg Addr.block e; simp at this; omega)
    exact ⟨(ho 0).trans hs.k0, (ho 1).trans hs.k1, (ho 2).trans hs.k2, by simpa using hs.f0, by simpa using hs.f1, by simpa using hs.f2⟩
  · exact ⟨(World.cell?_setCell_other _ _ _ _ (by simp)).trans hx.k0, (World.cell?_setCell_other _ _ _ _ (by simp)).trans hx.k1, World.cell?_setCell_same _ _ _ hx.k2, by simpa using hx.f0, by simpa using hx.f1, by simpa using hx.f2⟩
end
/-- New bytes, seen behind the last stores. -/
theorem up_end {w y : World} {B q : Nat} (hw : w.heap.size < B) (hq : q < B) (v a b c : Value) (i : Nat) : Keep (see (fun b => B ≤ b) y) (see (fun b => w.heap.size ≤ b) (put3 (y.setCell ⟨q, i, none⟩ v) w.heap.size a b c)) :=
  keep_see fun p o u h1 h2 => ⟨by omega, by rw [put3_other _ _ _ _ _ (by omega), World.cell?_setCell_other _ _ _ _ (fun e => by have := congrArg Addr.block e; simp at this; omega)]; exact h2⟩
theorem Rdr.grownR {w y y' : World} {B q i : Nat} {V D U : Value} (h : Rdr w q V i D y) (hg : y.grownBy y' U.ownBlock) (hB : w.heap.size < B ∧ q < B) (hu : ∀ k, U.ownBlock = some k → B ≤ k) : Rdr w q V i D y' :=
  ⟨h.box.grown hg (fun e => by have := hu _ e; omega), h.res.grown hg (fun e => by have := hu _ e; omega), h.kept.grown hg (fun k hk => .inr (by have := hu k hk; omega))⟩
theorem own_empty (w : World) : Own (w.alloc (.cells #[] 5)) w.heap.size (.slice (some ⟨w.heap.size, 0, none⟩) 0 0) [] := own_none w w.heap.size (Nat.le_refl _)
end Rl
end Go.Proofs.YtkhdamjjbjmeaaaDoor
