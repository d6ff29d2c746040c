/-
  RlpKnown: a text out of a string. Own work.
-/
import Derived.Test.YthlmjcochpodgaaDoorJ7
import Derived.Laws.AppendOwn
namespace Go.Proofs.YthlmjcochpodgaaDoor
open Go.ChangeShapes Go.WideShapes Go.Deep Go.RowKit
set_option linter.unusedVariables false
set_option linter.unusedSimpArgs false
namespace Rl
theorem str_size (bs : List Bt) : (str bs).size = bs.length := by simp [str, ByteArray.size]
/-- '[]byte(s)'. -/
theorem conv_txt (w : World) (bs : List Bt) (h : bs.length ≤ maxLen) : ∃ c w', (convert 9 22 (.string (str bs))).run Tryd.prog w = .ok (.slice (some ⟨w.heap.size, 0, none⟩) bs.length c) w' ∧
    IsB w' (some ⟨w.heap.size, 0, none⟩) bs.length c bs ∧ Below w.heap.size w w' := by
  have hr := run_bytes_of_string (P := Tryd.prog) w 9 22 5 (str bs) Tryd.underlying9 Tryd.underlying22 Tryd.underlying5
  rw [str_size] at hr
  refine ⟨_, _, hr, ⟨rfl, grownCap_ge _ _ _ _, grownCap_le_maxLen _ _ _ _ h, fun e => (by cases e), .inr ⟨_, 0, rfl, fun i x hx => ?_⟩⟩, ?_⟩
  · have hi : i < bs.length := (List.getElem?_eq_some_iff.1 hx).1
    rw [Nat.zero_add]
    have h1 := World.cell?_alloc_mark w.drew (bytesRow (str bs) (grownCap w bs.length 0 5)) 5 ((bytesRow (str bs) (grownCap w bs.length 0 5)).size, (bytesRow (str bs) (grownCap w bs.length 0 5)).size + 1) i
    refine Eq.trans h1 ?_
    rw [bytesRow_at _ _ _ (by simpa [str] using hi)]
    have e2 : bs[i] = x := by have := List.getElem?_eq_some_iff.1 hx; exact this.2
    simp [str, bvb, e2]
  · exact ((Below.refl w.heap.size w).drew).alloc (Nat.le_refl _) _
theorem wpList_cvB {w : World} {ops : Array Oper} {rest : List Oper} {op : Oper} {a : Act} {Q : Exit → Act → World → Prop} (hgd : op.guard = none) (x : Operand) (ho : op.op = .convert 9 22 x) (bs : List Bt) (hx : a.eval x = .string (str bs)) (h1 : bs.length ≤ maxLen)
    (h : ∀ c w', IsB w' (some ⟨w.heap.size, 0, none⟩) bs.length c bs → Below w.heap.size w w' → wpList Tryd.prog ops Q rest (a.put op.dst (.slice (some ⟨w.heap.size, 0, none⟩) bs.length c)) w') : wpList Tryd.prog ops Q (op :: rest) a w := by
  obtain ⟨c, w', hr, hB, hb⟩ := conv_txt w bs h1
  refine wpList_plain hgd fun _ hK => ?_
  unfold Oper.wp execOp
  simp only [ho, hx]
  simp [hr]
  exact hK _ _ (h _ _ hB hb)
theorem IsB.set {w : World} {a : Option Addr} {n c q o : Nat} {bs : List Bt} {v : Value} (h : IsB w a n c bs) (hn : ∀ b o', a = some ⟨b, o', none⟩ → b ≠ q) : IsB (w.setCell ⟨q, o, none⟩ v) a n c bs := by
  obtain ⟨h1, h2, h3, h4, h5⟩ := h
  refine ⟨h1, h2, h3, h4, h5.imp id ?_⟩
  rintro ⟨b, o', e, h6⟩
  refine ⟨b, o', e, fun i x hx => ?_⟩
  have := hn b o' e
  rw [World.cell?_setCell_other _ _ _ _ (by simp <;> omega)]
  exact h6 i x hx
set_option maxHeartbeats 2000000 in
set_option maxRecDepth 100000 in
theorem text_walk (w : World) (bs : List Bt) (h1 : bs.length ≤ maxLen) :
    Calls Tryd.prog 11 #[.string (str bs)] w fun e w' => ∃ a c, e = .returned (.agg #[.bool false, .slice a bs.length c, .slice none 0 0]) ∧ IsB w' a bs.length c bs ∧ Below w.heap.size w w' := by
  have HB : Hid (Below w.heap.size w (w.alloc (.cells #[.bool false, .slice none 0 0, .slice none 0 0] 25))) := Lib.hid ((Below.refl _ _).alloc (Nat.le_refl _) _)
  have H1 := Lib.hid h1
  clear h1
  go_enter Tryd.func11, Tryd.ntmps11
  go_wp2_with (refine wpList_cvB rfl (.tmp 3) rfl bs rfl H1.out ?_; rintro c1 y1 hB hb; have HB1 := Lib.hid hB; have HL1 := Lib.hid (bl HB.out hb); have g0 := keep1 hb (o := 0) (b := w.heap.size) (x := .bool false) (by simp); have g1 := keep1 hb (o := 1) (b := w.heap.size) (x := .slice none 0 0) (by simp); have g2 := keep1 hb (o := 2) (b := w.heap.size) (x := .slice none 0 0) (by simp); have f0 := keepF hb (b := w.heap.size) (o := 0) (by simp) (by simp); have f1 := keepF hb (b := w.heap.size) (o := 1) (by simp) (by simp); have f2 := keepF hb (b := w.heap.size) (o := 2) (by simp) (by simp); clear hB hb)
  have hn : ∀ b o', (some ⟨(w.alloc (.cells #[.bool false, .slice none 0 0, .slice none 0 0] 25)).heap.size, 0, none⟩ : Option Addr) = some ⟨b, o', none⟩ → b ≠ w.heap.size := fun b o' e => by
    injection e with e
    injection e with e _
    rw [← e]; simp
  refine bodyPost_ret (v := .agg #[.bool false, .slice (some ⟨(w.alloc (.cells #[.bool false, .slice none 0 0, .slice none 0 0] 25)).heap.size, 0, none⟩) bs.length c1, .slice none 0 0]) (by simp [results, Tryd.results11, go_sem, g0, g1, g2]) rfl ⟨_, c1, rfl, ((HB1.out.set hn).set hn).set hn, ((HL1.out.setCell (Nat.le_refl _) _).setCell (Nat.le_refl _) _).setCell (Nat.le_refl _) _⟩
end Rl
end Go.Proofs.YthlmjcochpodgaaDoor
