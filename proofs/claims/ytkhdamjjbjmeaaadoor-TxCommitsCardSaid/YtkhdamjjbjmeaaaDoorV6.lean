/-
  tx: what is encoded comes back; mootlaw04: fixed. Own work.
-/
import Derived.Test.YtkhdamjjbjmeaaaDoorV5
import Derived.Test.YtkhdamjjbjmeaaaDoorJ7
import Derived.Test.YtkhdamjjbjmeaaaDoorErr
namespace Go.Proofs.YtkhdamjjbjmeaaaDoor
open Go.ChangeShapes Go.WideShapes Go.Deep Go.RowKit
set_option linter.unusedVariables false
set_option linter.unusedSimpArgs false
namespace Rl
theorem nums_drop : ∀ (l : List Nat) (i : Nat), (nums l).drop i = nums (l.drop i)
  | [], i => by cases i <;> rfl
  | v :: r, 0 => rfl
  | v :: r, i + 1 => by show (nums r).drop i = nums (r.drop i); exact nums_drop r i
theorem val_big {v : Nat} (hv : v < 18446744073709551616) : valW false (big v) = 0 := by
  unfold valW
  rw [if_neg (by decide), if_neg]
  rintro (h | h)
  · have := big_le v; omega
  · cases hb : big v with
    | nil => rw [hb] at h; cases h
    | cons x r =>
      rw [hb] at h
      injection h with h
      exact digs_first 8 v x r hb (by simpa using hv) h
theorem tx_drop {f : Nat → Nat} {i : Nat} (hi : i < 6) : ∃ r, (nums (txL f)).drop i = .cons false (big (f i)) .nil r := by
  rw [nums_drop]
  have h : (txL f).drop i = f i :: (txL f).drop (i + 1) := by
    have hl : i < (txL f).length := by simp [txL]; omega
    rw [List.drop_eq_getElem_cons hl]; simp [txL]
  rw [h]; exact ⟨_, rfl⟩
theorem tx_st {f : Nat → Nat} (hf : ∀ i, i < 6 → f i < 18446744073709551616) {i : Nat} (hi : i < 6) : stO (nums (txL f)) i = (if inOk i (f i) then 0 else 2) ∧ txf (nums (txL f)) i = f i := by
  obtain ⟨r, h⟩ := tx_drop (f := f) hi
  obtain ⟨h1, h2⟩ := stO_at h
  rw [big_num (hf i hi)] at h1 h2
  rw [val_big (hf i hi), if_pos rfl] at h1
  exact ⟨h1, h2⟩
/-- A transaction's bytes lead back to it. -/
theorem txd_txB {f : Nat → Nat} (hf : ∀ i, i < 6 → f i < 18446744073709551616) (ho : txOk f = true) : ∃ g, txd (txB f) = .ok g ∧ ∀ i, i < 6 → g i = f i := by
  have hl : (txL f).length = 6 := by simp [txL]
  refine ⟨txf (nums (txL f)), ?_, fun i hi => (tx_st hf hi).2⟩
  unfold txd txB
  rw [enc_dec (nums_enc (l := txL f) (by omega))]
  show (if true = true ∧ (nums (txL f)).len = 6 then txd' (nums (txL f)) else .num 3) = _
  rw [if_pos ⟨rfl, by rw [nums_len, hl]⟩]
  exact txd_good fun i hi => by rw [(tx_st hf hi).1, txOk_iff.1 ho i hi]; rfl
theorem txv_cong {f g : Nat → Nat} (h : ∀ i, i < 6 → g i = f i) : txv g = txv f := by
  unfold txv; rw [h 0 (by decide), h 1 (by decide), h 2 (by decide), h 3 (by decide), h 4 (by decide), h 5 (by decide)]
def f4 : Nat → Nat
  | 0 => 1
  | 1 => 2
  | 3 => 300
  | 4 => 9
  | _ => 0
def f64 : Nat → Nat
  | 0 => 64
  | _ => 0
theorem f4_ok : txOk f4 = true ∧ txB f4 = [200#8, 1#8, 2#8, 128#8, 130#8, 1#8, 44#8, 9#8, 128#8] := by decide
theorem f64_ok : txOk f64 = false := by decide
theorem f4_b : ∀ i, i < 6 → f4 i < 18446744073709551616 := by decide
theorem f64_b : ∀ i, i < 6 → f64 i < 18446744073709551616 := by decide
set_option maxHeartbeats 2000000 in
set_option maxRecDepth 100000 in
theorem fixed4_walk (w : World) : Calls Tryd.prog 8 #[] w fun e w' => e = .returned (.bool true) ∧ Below w.heap.size w w' := by
  have HE4 : Hid (Calls Tryd.prog 12 #[.agg #[.int .u64 1, .int .u64 2, .int .u64 0, .int .u64 300, .int .u64 9, .int .u64 0]] w fun e w' => ∃ V, e = .returned (.tuple #[V, .nilIface]) ∧ Own w' w.heap.size V [200#8, 1#8, 2#8, 128#8, 130#8, 1#8, 44#8, 9#8, 128#8] ∧ Below w.heap.size w w') := Lib.hid (by
    have := txEncode_walk w f4 f4_b
    rw [f4_ok.1, f4_ok.2] at this
    exact this)
  have HE64 : Hid (∀ y, Calls Tryd.prog 12 #[.agg #[.int .u64 64, .int .u64 0, .int .u64 0, .int .u64 0, .int .u64 0, .int .u64 0]] y fun e w' => ∃ V, e = .returned (.tuple #[V, .iface 64 (.int .i64 2)]) ∧ Own w' y.heap.size V [] ∧ Below y.heap.size y w') := Lib.hid (fun y => by
    have := txEncode_walk y f64 f64_b
    rw [f64_ok] at this
    exact this)
  have HD4 : Hid (∀ y a n c, IsB y a n c [200#8, 1#8, 2#8, 128#8, 130#8, 1#8, 44#8, 9#8, 128#8] → Calls Tryd.prog 14 #[.slice a n c] y fun r w' => r = .returned (.tuple #[.agg #[.int .u64 1, .int .u64 2, .int .u64 0, .int .u64 300, .int .u64 9, .int .u64 0], .nilIface]) ∧ Below y.heap.size y w') := Lib.hid (fun y a n c h => by
    obtain ⟨g, hg, hgf⟩ := txd_txB f4_b f4_ok.1
    rw [f4_ok.2] at hg
    have := txDecode_walk y a n c _ h
    rw [hg] at this
    refine this.mono fun r w' ⟨h1, h2⟩ => ⟨?_, h2⟩
    rw [show r = _ from h1, txv_cong hgf]; rfl)
  go_enter Tryd.func8, Tryd.ntmps8
  go_upto_region 3 with (first
    | (go_at_call 12; (with_reducible refine HE4.out.mono ?_); rintro e y1 ⟨V, rfl, hO, hb⟩
       obtain ⟨a3, c3, rfl, hB3⟩ := hO.isB
       have HB3 : Hid (IsB y1 a3 9 c3 [200#8, 1#8, 2#8, 128#8, 130#8, 1#8, 44#8, 9#8, 128#8]) := Lib.hid hB3; have H1 := Lib.hid hb; clear hO hb hB3 HE4)
    | (go_at_call 14; (with_reducible refine (HD4.out _ _ _ _ HB3.out).mono ?_); rintro e y2 ⟨rfl, hb⟩
       have hba := ba y2 (.cells #[.int .u64 1, .int .u64 2, .int .u64 0, .int .u64 300, .int .u64 9, .int .u64 0] 36)
       have H2 := Lib.hid (bl (bl H1.out hb) hba)
       have HB4 := Lib.hid (HB3.out.keep (keep_below (bl hb hba)))
       have C2 := Lib.hid (Box6.new y2 (fun i => .int .u64 (f4 i)) 36)
       clear hb hba HB3 HD4))
  have C2 : Hid (Box6 (y2.alloc (.cells #[.int .u64 1, .int .u64 2, .int .u64 0, .int .u64 300, .int .u64 9, .int .u64 0] 36)) y2.heap.size (fun i => .int .u64 (f4 i))) := C2
  generalize y2.alloc (.cells #[.int .u64 1, .int .u64 2, .int .u64 0, .int .u64 300, .int .u64 9, .int .u64 0] 36) = y3 at *
  go_wp2_with (first
    | (go_at_call 12; (with_reducible refine (HE64.out _).mono ?_); rintro e y4 ⟨V, rfl, hO, hb⟩
       obtain ⟨a5, c5, rfl, _⟩ := hO.isB
       have H4 := Lib.hid (bl H2.out hb)
       have hcv : (convert 38 9 (.slice a3 9 c3)).run Tryd.prog y4 = .ok (.string ⟨#[200, 1, 2, 128, 130, 1, 44, 9, 128]⟩) y4 := conv_str (HB4.out.keep (keep_below hb))
       have c4 := C2.out.keep hb
       have z0 : y4.cell? ⟨y2.heap.size, 0, none⟩ = some (.int .u64 1) := c4.k 0 (by decide)
       have z1 : y4.cell? ⟨y2.heap.size, 1, none⟩ = some (.int .u64 2) := c4.k 1 (by decide)
       have z2 : y4.cell? ⟨y2.heap.size, 2, none⟩ = some (.int .u64 0) := c4.k 2 (by decide)
       have z3 : y4.cell? ⟨y2.heap.size, 3, none⟩ = some (.int .u64 300) := c4.k 3 (by decide)
       have z4 : y4.cell? ⟨y2.heap.size, 4, none⟩ = some (.int .u64 9) := c4.k 4 (by decide)
       have z5 : y4.cell? ⟨y2.heap.size, 5, none⟩ = some (.int .u64 0) := c4.k 5 (by decide)
       clear hO hb HE64 c4)
    | (go_at_call 25; (with_reducible refine (Err.is_num 2 2 _).mono ?_); rintro e y5 ⟨rfl, rfl⟩))
  go_ret
  exact ⟨rfl, H4.out⟩
end Rl
end Go.Proofs.YtkhdamjjbjmeaaaDoor
