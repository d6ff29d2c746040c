/-
  rlp: number, Number, Value. Own work.
-/
import Derived.Test.YthlmjcochpodgaaDoorRe
import Derived.Laws.Bits64b
namespace Go.Proofs.YthlmjcochpodgaaDoor
open Go.ChangeShapes Go.WideShapes Go.Deep Go.RowKit
set_option linter.unusedVariables false
set_option linter.unusedSimpArgs false
namespace Rl
theorem num_take (bs : List Bt) (j : Nat) (h : j < bs.length) : num 0 (bs.take (j + 1)) = num 0 (bs.take j) * 256 + (bs.getD j 0#8).toNat := by
  rw [List.take_add_one, List.getElem?_eq_getElem h, num_app, List.getD_eq_getElem?_getD, List.getElem?_eq_getElem h]
  rfl
theorem or_u64 (v x : Nat) (hv : v * 256 < 18446744073709551616) (hx : x < 256) : bits BinOp.or IntKind.u64 (IntKind.u64.wrap ((v : Int) * 256)) (IntKind.u64.wrap (x : Int)) = ((v * 256 + x : Nat) : Int) := by
  have e1 : IntKind.u64.wrap ((v : Int) * 256) = ((v * 256 : Nat) : Int) := by show ((v : Int) * 256) % 18446744073709551616 = _; omega
  have e2 : IntKind.u64.wrap (x : Int) = ((x : Nat) : Int) := by show (x : Int) % 18446744073709551616 = _; omega
  rw [e1, e2, bits_or_u64_nat _ _ hv (by omega)]
  have := Nat.two_pow_add_eq_or_of_lt (i := 8) (b := x) (by omega) v
  rw [Nat.mul_comm v 256]
  have e3 : 2 ^ 8 = 256 := rfl
  rw [e3] at this
  rw [← this]
theorem num_lt (bs : List Bt) (j : Nat) (h : j ≤ 7) : num 0 (bs.take j) * 256 < 18446744073709551616 := by
  have h1 := num_bound (bs.take j) 0
  have h2 : (bs.take j).length ≤ 7 := by simp; omega
  have h3 : 256 ^ (bs.take j).length ≤ 256 ^ 7 := Nat.pow_le_pow_right (by decide) h2
  have h4 : (256 : Nat) ^ 7 = 72057594037927936 := rfl
  omega
set_option maxHeartbeats 2000000 in
set_option maxRecDepth 100000 in
theorem number_walk (w : World) (a : Option Addr) (n c : Nat) (bs : List Bt) (hB : IsB w a n c bs) (h8 : n ≤ 8) :
    Calls Tryd.prog 40 #[.slice a n c] w fun e w' => e = .returned (.int .u64 (num 0 bs)) ∧ w' = w := by
  have HB := Lib.hid hB
  have H8 := Lib.hid h8
  clear hB h8
  go_enter Tryd.func40, Tryd.ntmps40
  go_wp2_with (fail)
  go_loopw [3, 8] (fun t i y => ∃ j : Nat, j ≤ n ∧ i = .int .i64 j ∧ t = .int .u64 (num 0 (bs.take j)) ∧ y = w) (fun _ i _ => n - (intOf i).toNat)
  case atStart => exact ⟨0, Nat.zero_le _, rfl, rfl, rfl⟩
  case round =>
    obtain ⟨j, hj, rfl, rfl, rfl⟩ := hrel
    by_cases hlt : (j : Int) < (n : Int)
    · obtain ⟨b, o, rfl, hcell⟩ : ∃ b o, a = some ⟨b, o, none⟩ ∧ wr.cell? ⟨b, o + j, none⟩ = some (.int .u8 ((bs.getD j 0#8).toNat : Int)) := by
        obtain ⟨h1, h2, h3, h4, h5⟩ := HB.out
        rcases h5 with h5 | ⟨b, o, e, h6⟩
        · omega
        · refine ⟨b, o, e, ?_⟩
          have := h6 j (bs.getD j 0#8) (by rw [List.getElem?_eq_getElem (by omega), List.getD_eq_getElem?_getD, List.getElem?_eq_getElem (by omega)]; rfl)
          exact this
      generalize hx : (bs.getD j 0#8).toNat = X at *
      generalize hv : num 0 (bs.take j) = Vn at *
      have HX := Lib.hid hx
      have HV := Lib.hid hv
      clear hx hv
      have HJ := Lib.hid (show j < n ∧ wrap64 ((j : Int) + 1) = ((j + 1 : Nat) : Int) by
        refine ⟨by omega, ?_⟩
        have := H8.out; unfold wrap64; omega)
      have HO := Lib.hid (show bits BinOp.or IntKind.u64 (IntKind.u64.wrap ((Vn : Int) * 256)) (IntKind.u64.wrap (X : Int)) = (num 0 (bs.take (j + 1)) : Int) by
        rw [num_take bs j (by have := HB.out.1; omega), HX.out, HV.out]
        refine or_u64 Vn X ?_ ?_
        · rw [← HV.out]; exact num_lt bs j (by have := H8.out; omega)
        · rw [← HX.out]; exact BitVec.isLt _)
      clear hj
      go_wp2_with (fail)
      go_roundw
      case rel => exact ⟨j + 1, HJ.out.1, by rw [HJ.out.2], by rw [HO.out], trivial⟩
      case measure => rw [HJ.out.2]; have := HJ.out.1; simp [intOf]; omega
    · go_wp2_with (fail)
      go_ret
      have e : j = n := by omega
      refine ⟨?_, rfl⟩
      rw [e, HB.out.1, List.take_length]
      rfl
set_option maxHeartbeats 2000000 in
set_option maxRecDepth 100000 in
theorem Number_walk (w : World) (v : Nat) (hv : v < 18446744073709551616) :
    Calls Tryd.prog 12 #[.int .u64 v] w fun e w' => ∃ a c, e = .returned (.agg #[.bool false, .slice a (big v).length c, .slice none 0 0]) ∧ IsB w' a (big v).length c (big v) ∧ Below w.heap.size w w' := by
  have HD := Lib.hid (digits_walk 8 v (by decide) hv (w.alloc (.cells #[.bool false, .slice none 0 0, .slice none 0 0] 25)))
  have HB : Hid (Below w.heap.size w (w.alloc (.cells #[.bool false, .slice none 0 0, .slice none 0 0] 25))) := Lib.hid ((Below.refl _ _).alloc (Nat.le_refl _) _)
  clear hv
  go_enter Tryd.func12, Tryd.ntmps12
  go_wp2_with (go_at_call 25; (with_reducible refine HD.out.mono ?_); rintro e y1 ⟨V, rfl, hO, hb⟩; obtain ⟨a1, c1, rfl, hB1⟩ := hO.isB; have HO := Lib.hid hO; have HL1 := Lib.hid (bl HB.out hb); have g0 := keep1 hb (o := 0) (b := w.heap.size) (x := .bool false) (by simp); have g1 := keep1 hb (o := 1) (b := w.heap.size) (x := .slice none 0 0) (by simp); have g2 := keep1 hb (o := 2) (b := w.heap.size) (x := .slice none 0 0) (by simp); have f0 := keepF hb (b := w.heap.size) (o := 0) (by simp) (by simp); have f1 := keepF hb (b := w.heap.size) (o := 1) (by simp) (by simp); have f2 := keepF hb (b := w.heap.size) (o := 2) (by simp) (by simp); clear hb hO hB1 HD)
  have ho : Own (((y1.setCell ⟨w.heap.size, 0, none⟩ (.bool false)).setCell ⟨w.heap.size, 1, none⟩ (.slice a1 (digs 8 v).length c1)).setCell ⟨w.heap.size, 2, none⟩ (.slice none 0 0)) (w.alloc (.cells #[.bool false, .slice none 0 0, .slice none 0 0] 25)).heap.size (.slice a1 (digs 8 v).length c1) (digs 8 v) :=
    ownsRow_setCell_below (ownsRow_setCell_below (ownsRow_setCell_below HO.out (by simp) _) (by simp) _) (by simp) _
  obtain ⟨a2, c2, e2, hB2⟩ := ho.isB
  injection e2 with e3 _ e4
  subst e3 e4
  refine bodyPost_ret (v := .agg #[.bool false, .slice a1 (digs 8 v).length c1, .slice none 0 0]) (by simp [results, Tryd.results12, go_sem, g0, g1, g2]) rfl ⟨a1, c1, rfl, hB2, ((HL1.out.setCell (Nat.le_refl _) _).setCell (Nat.le_refl _) _).setCell (Nat.le_refl _) _⟩
end Rl
end Go.Proofs.YthlmjcochpodgaaDoor
