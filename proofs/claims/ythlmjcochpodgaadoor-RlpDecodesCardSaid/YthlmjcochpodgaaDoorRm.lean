/-
  rlp: headOf. Own work.
-/
import Derived.Test.YthlmjcochpodgaaDoorRk
namespace Go.Proofs.YthlmjcochpodgaaDoor
open Go.ChangeShapes Go.WideShapes Go.Deep Go.RowKit
set_option linter.unusedVariables false
set_option linter.unusedSimpArgs false
namespace Rl
/-- A head by value. -/
def hv (l : Bool) (s n : Int) : Value := .agg #[.bool l, .int .i64 s, .int .i64 n]
set_option maxHeartbeats 1000000 in
set_option maxRecDepth 100000 in
theorem head_one (w : World) (n c b o F : Nat) (hF : F < 128) (hc : w.cell? ⟨b, o, none⟩ = some (.int .u8 F)) (hn : 1 ≤ n) :
    Calls Tryd.prog 43 #[.slice (some ⟨b, o, none⟩) n c] w fun e w' => e = .returned (.tuple #[hv false 0 1, .nilIface]) ∧ Below w.heap.size w w' := by
  have HB0 : Hid (Below w.heap.size w (w.alloc (.cells #[.bool false, .int .i64 0, .int .i64 0] 83))) := Lib.hid ((Below.refl _ _).alloc (Nat.le_refl _) _)
  have g0 := keep_below HB0.out _ _ hc
  have h1 : (F : Int) < 128 := by omega
  have h2 : (0 : Int) < n := by omega
  have hw : wrap64 (F : Int) = F := by unfold wrap64; omega
  clear hF hc hn
  go_enter Tryd.func43, Tryd.ntmps43
  go_wp2_with (fail)
  exact bodyPost_ret (v := .tuple #[hv false 0 1, .nilIface]) (by simp [results, Tryd.results43, go_sem, hv]) rfl ⟨rfl, (Below.refl _ _).alloc (Nat.le_refl _) _⟩
set_option maxHeartbeats 2000000 in
set_option maxRecDepth 100000 in
theorem head_long (w : World) (n c b o F : Nat) (hF : 184 ≤ F) (hF2 : F < 192) (hc : w.cell? ⟨b, o, none⟩ = some (.int .u8 F)) (hn : 1 ≤ n) (l : Bool) (s m : Int) (er : Value)
    (h : ∀ y, Below w.heap.size w y → Calls Tryd.prog 52 #[.slice (some ⟨b, o, none⟩) n c, .int .i64 ((F : Int) - 183)] y fun e w' => e = .returned (.tuple #[.agg #[.bool l, .int .i64 s, .int .i64 m], er]) ∧ Below y.heap.size y w') :
    Calls Tryd.prog 43 #[.slice (some ⟨b, o, none⟩) n c] w fun e w' => e = .returned (.tuple #[hv l s m, er]) ∧ Below w.heap.size w w' := by
  have HB0 : Hid (Below w.heap.size w (w.alloc (.cells #[.bool false, .int .i64 0, .int .i64 0] 83))) := Lib.hid ((Below.refl _ _).alloc (Nat.le_refl _) _)
  have g0 := keep_below HB0.out _ _ hc
  have h1 : decide ((F : Int) < 128) = false := by simp; omega
  have h3 : decide ((F : Int) ≤ 183) = false := by simp; omega
  have h4 : (F : Int) < 192 := by omega
  have h2 : (0 : Int) < n := by omega
  have hw : wrap64 (F : Int) = F := by unfold wrap64; omega
  have HH := Lib.hid (h _ HB0.out)
  clear hF hF2 hc hn h
  go_enter Tryd.func43, Tryd.ntmps43
  go_wp2_with (go_at_call 52; (with_reducible refine HH.out.mono ?_); rintro e y1 ⟨rfl, hb⟩; have H1 := Lib.hid (bl HB0.out hb); have k0 := keep1 hb (o := 0) (b := w.heap.size) (x := .bool false) (by simp); have k1 := keep1 hb (o := 1) (b := w.heap.size) (x := .int .i64 0) (by simp); have k2 := keep1 hb (o := 2) (b := w.heap.size) (x := .int .i64 0) (by simp); have f0 := keepF hb (b := w.heap.size) (o := 0) (by simp) (by simp); have f1 := keepF hb (b := w.heap.size) (o := 1) (by simp) (by simp); have f2 := keepF hb (b := w.heap.size) (o := 2) (by simp) (by simp); clear hb HH)
  exact bodyPost_ret (v := .tuple #[hv l s m, er]) (by simp [results, Tryd.results43, go_sem, hv, k0, k1, k2]) rfl ⟨rfl, ((H1.out.setCell (Nat.le_refl _) _).setCell (Nat.le_refl _) _).setCell (Nat.le_refl _) _⟩
set_option maxHeartbeats 2000000 in
set_option maxRecDepth 100000 in
theorem head_biglist (w : World) (n c b o F : Nat) (hF : 248 ≤ F) (hF2 : F < 256) (hc : w.cell? ⟨b, o, none⟩ = some (.int .u8 F)) (hn : 1 ≤ n) (l : Bool) (s m : Int) (er : Value)
    (h : ∀ y, Below w.heap.size w y → Calls Tryd.prog 52 #[.slice (some ⟨b, o, none⟩) n c, .int .i64 ((F : Int) - 247)] y fun e w' => e = .returned (.tuple #[.agg #[.bool l, .int .i64 s, .int .i64 m], er]) ∧ Below y.heap.size y w') :
    Calls Tryd.prog 43 #[.slice (some ⟨b, o, none⟩) n c] w fun e w' => e = .returned (.tuple #[hv true s m, er]) ∧ Below w.heap.size w w' := by
  have HB0 : Hid (Below w.heap.size w (w.alloc (.cells #[.bool false, .int .i64 0, .int .i64 0] 83))) := Lib.hid ((Below.refl _ _).alloc (Nat.le_refl _) _)
  have g0 := keep_below HB0.out _ _ hc
  have h1 : decide ((F : Int) < 128) = false := by simp; omega
  have h3 : decide ((F : Int) ≤ 183) = false := by simp; omega
  have h4 : decide ((F : Int) < 192) = false := by simp; omega
  have h5 : decide ((F : Int) ≤ 247) = false := by simp; omega
  have h2 : (0 : Int) < n := by omega
  have hw : wrap64 (F : Int) = F := by unfold wrap64; omega
  have hw2 : wrap64 ((F : Int) - 247) = (F : Int) - 247 := by unfold wrap64; omega
  have HH := Lib.hid (h _ HB0.out)
  clear hF hF2 hc hn h
  go_enter Tryd.func43, Tryd.ntmps43
  go_wp2_with (go_at_call 52; (with_reducible refine HH.out.mono ?_); rintro e y1 ⟨rfl, hb⟩; have H1 := Lib.hid (bl HB0.out hb); have k0 := keep1 hb (o := 0) (b := w.heap.size) (x := .bool false) (by simp); have k1 := keep1 hb (o := 1) (b := w.heap.size) (x := .int .i64 0) (by simp); have k2 := keep1 hb (o := 2) (b := w.heap.size) (x := .int .i64 0) (by simp); have f0 := keepF hb (b := w.heap.size) (o := 0) (by simp) (by simp); have f1 := keepF hb (b := w.heap.size) (o := 1) (by simp) (by simp); have f2 := keepF hb (b := w.heap.size) (o := 2) (by simp) (by simp); have HA := (Below.refl y1.heap.size y1).alloc (Nat.le_refl _) (.cells #[.bool true, .int .i64 s, .int .i64 m] 83); have hlt := inHeap k0; have k0 := keep1 HA k0; have k1 := keep1 HA k1; have k2 := keep1 HA k2; have f0 := keepF HA hlt f0; have f1 := keepF HA hlt f1; have f2 := keepF HA hlt f2; clear hb HH HA hlt)
  exact bodyPost_ret (v := .tuple #[hv true s m, er]) (by simp [results, Tryd.results43, go_sem, hv, k0, k1, k2]) rfl ⟨rfl, (((H1.out.alloc H1.out.size _).setCell (Nat.le_refl _) _).setCell (Nat.le_refl _) _).setCell (Nat.le_refl _) _⟩
set_option maxHeartbeats 2000000 in
set_option maxRecDepth 100000 in
theorem head_list (w : World) (n c b o F : Nat) (hF : 192 ≤ F) (hF2 : F ≤ 247) (hc : w.cell? ⟨b, o, none⟩ = some (.int .u8 F)) (hn : 1 ≤ n) (l : Bool) (s m : Int) (er : Value)
    (h : ∀ y, Below w.heap.size w y → Calls Tryd.prog 51 #[.slice (some ⟨b, o, none⟩) n c, .int .i64 ((F : Int) - 192)] y fun e w' => e = .returned (.tuple #[.agg #[.bool l, .int .i64 s, .int .i64 m], er]) ∧ Below y.heap.size y w') :
    Calls Tryd.prog 43 #[.slice (some ⟨b, o, none⟩) n c] w fun e w' => e = .returned (.tuple #[hv true s m, er]) ∧ Below w.heap.size w w' := by
  have HB0 : Hid (Below w.heap.size w (w.alloc (.cells #[.bool false, .int .i64 0, .int .i64 0] 83))) := Lib.hid ((Below.refl _ _).alloc (Nat.le_refl _) _)
  have g0 := keep_below HB0.out _ _ hc
  have h1 : decide ((F : Int) < 128) = false := by simp; omega
  have h3 : decide ((F : Int) ≤ 183) = false := by simp; omega
  have h4 : decide ((F : Int) < 192) = false := by simp; omega
  have h5 : (F : Int) ≤ 247 := by omega
  have h2 : (0 : Int) < n := by omega
  have hw : wrap64 (F : Int) = F := by unfold wrap64; omega
  have HH := Lib.hid (h _ HB0.out)
  clear hF hF2 hc hn h
  go_enter Tryd.func43, Tryd.ntmps43
  go_wp2_with (go_at_call 51; (with_reducible refine HH.out.mono ?_); rintro e y1 ⟨rfl, hb⟩; have H1 := Lib.hid (bl HB0.out hb); have k0 := keep1 hb (o := 0) (b := w.heap.size) (x := .bool false) (by simp); have k1 := keep1 hb (o := 1) (b := w.heap.size) (x := .int .i64 0) (by simp); have k2 := keep1 hb (o := 2) (b := w.heap.size) (x := .int .i64 0) (by simp); have f0 := keepF hb (b := w.heap.size) (o := 0) (by simp) (by simp); have f1 := keepF hb (b := w.heap.size) (o := 1) (by simp) (by simp); have f2 := keepF hb (b := w.heap.size) (o := 2) (by simp) (by simp); have HA := (Below.refl y1.heap.size y1).alloc (Nat.le_refl _) (.cells #[.bool true, .int .i64 s, .int .i64 m] 83); have hlt := inHeap k0; have k0 := keep1 HA k0; have k1 := keep1 HA k1; have k2 := keep1 HA k2; have f0 := keepF HA hlt f0; have f1 := keepF HA hlt f1; have f2 := keepF HA hlt f2; clear hb HH HA hlt)
  exact bodyPost_ret (v := .tuple #[hv true s m, er]) (by simp [results, Tryd.results43, go_sem, hv, k0, k1, k2]) rfl ⟨rfl, (((H1.out.alloc H1.out.size _).setCell (Nat.le_refl _) _).setCell (Nat.le_refl _) _).setCell (Nat.le_refl _) _⟩
set_option maxHeartbeats 2000000 in
set_option maxRecDepth 100000 in
theorem head_text_bad (w : World) (n c b o F : Nat) (hF : 128 ≤ F) (hF2 : F ≤ 183) (hc : w.cell? ⟨b, o, none⟩ = some (.int .u8 F)) (hn : 1 ≤ n) (k : Int)
    (h : ∀ y, Below w.heap.size w y → Calls Tryd.prog 51 #[.slice (some ⟨b, o, none⟩) n c, .int .i64 ((F : Int) - 128)] y fun e w' => e = .returned (.tuple #[.agg #[.bool false, .int .i64 0, .int .i64 0], eN k]) ∧ Below y.heap.size y w') :
    Calls Tryd.prog 43 #[.slice (some ⟨b, o, none⟩) n c] w fun e w' => e = .returned (.tuple #[hv false 0 0, eN k]) ∧ Below w.heap.size w w' := by
  have HB0 : Hid (Below w.heap.size w (w.alloc (.cells #[.bool false, .int .i64 0, .int .i64 0] 83))) := Lib.hid ((Below.refl _ _).alloc (Nat.le_refl _) _)
  have g0 := keep_below HB0.out _ _ hc
  have h1 : decide ((F : Int) < 128) = false := by simp; omega
  have h3 : (F : Int) ≤ 183 := by omega
  have h2 : (0 : Int) < n := by omega
  have hw : wrap64 (F : Int) = F := by unfold wrap64; omega
  have HH := Lib.hid (h _ HB0.out)
  clear hF hF2 hc hn h
  unfold eN at *
  go_enter Tryd.func43, Tryd.ntmps43
  go_wp2_with (go_at_call 51; (with_reducible refine HH.out.mono ?_); rintro e y1 ⟨rfl, hb⟩; have H1 := Lib.hid (bl HB0.out hb); have k0 := keep1 hb (o := 0) (b := w.heap.size) (x := .bool false) (by simp); have k1 := keep1 hb (o := 1) (b := w.heap.size) (x := .int .i64 0) (by simp); have k2 := keep1 hb (o := 2) (b := w.heap.size) (x := .int .i64 0) (by simp); have f0 := keepF hb (b := w.heap.size) (o := 0) (by simp) (by simp); have f1 := keepF hb (b := w.heap.size) (o := 1) (by simp) (by simp); have f2 := keepF hb (b := w.heap.size) (o := 2) (by simp) (by simp); have HA := (Below.refl y1.heap.size y1).alloc (Nat.le_refl _) (.cells #[.bool false, .int .i64 0, .int .i64 0] 83); have hlt := inHeap k0; have k0 := keep1 HA k0; have k1 := keep1 HA k1; have k2 := keep1 HA k2; have f0 := keepF HA hlt f0; have f1 := keepF HA hlt f1; have f2 := keepF HA hlt f2; clear hb HH HA hlt)
  exact bodyPost_ret (v := .tuple #[hv false 0 0, eN k]) (by simp [results, Tryd.results43, go_sem, hv, eN, k0, k1, k2]) rfl ⟨rfl, (((H1.out.alloc H1.out.size _).setCell (Nat.le_refl _) _).setCell (Nat.le_refl _) _).setCell (Nat.le_refl _) _⟩
set_option maxHeartbeats 2000000 in
set_option maxRecDepth 100000 in
theorem head_text_form (w : World) (n c b o F : Nat) (hF : 128 ≤ F) (hF2 : F ≤ 183) (hc : w.cell? ⟨b, o, none⟩ = some (.int .u8 F)) (hn : 1 ≤ n) (X : Nat) (hX : X < 128) (hn2 : 2 ≤ n) (gw : w.cell? ⟨b, o + 1, none⟩ = some (.int .u8 X))
    (h : ∀ y, Below w.heap.size w y → Calls Tryd.prog 51 #[.slice (some ⟨b, o, none⟩) n c, .int .i64 ((F : Int) - 128)] y fun e w' => e = .returned (.tuple #[.agg #[.bool false, .int .i64 1, .int .i64 1], .nilIface]) ∧ Below y.heap.size y w') :
    Calls Tryd.prog 43 #[.slice (some ⟨b, o, none⟩) n c] w fun e w' => e = .returned (.tuple #[hv false 0 0, eN 12]) ∧ Below w.heap.size w w' := by
  have HB0 : Hid (Below w.heap.size w (w.alloc (.cells #[.bool false, .int .i64 0, .int .i64 0] 83))) := Lib.hid ((Below.refl _ _).alloc (Nat.le_refl _) _)
  have g0 := keep_below HB0.out _ _ hc
  have h1 : decide ((F : Int) < 128) = false := by simp; omega
  have h3 : (F : Int) ≤ 183 := by omega
  have h2 : (0 : Int) < n := by omega
  have hw : wrap64 (F : Int) = F := by unfold wrap64; omega
  have HH := Lib.hid (h _ HB0.out)
  clear hF hF2 hc hn h
  have hx1 : (X : Int) < 128 := by omega
  have hn1 : (1 : Int) < n := by omega
  have GW := Lib.hid gw
  clear gw hX hn2
  go_enter Tryd.func43, Tryd.ntmps43
  go_wp2_with (go_at_call 51; (with_reducible refine HH.out.mono ?_); rintro e y1 ⟨rfl, hb⟩; have H1 := Lib.hid (bl HB0.out hb); have k0 := keep1 hb (o := 0) (b := w.heap.size) (x := .bool false) (by simp); have k1 := keep1 hb (o := 1) (b := w.heap.size) (x := .int .i64 0) (by simp); have k2 := keep1 hb (o := 2) (b := w.heap.size) (x := .int .i64 0) (by simp); have f0 := keepF hb (b := w.heap.size) (o := 0) (by simp) (by simp); have f1 := keepF hb (b := w.heap.size) (o := 1) (by simp) (by simp); have f2 := keepF hb (b := w.heap.size) (o := 2) (by simp) (by simp); have HA := (Below.refl y1.heap.size y1).alloc (Nat.le_refl _) (.cells #[.bool false, .int .i64 1, .int .i64 1] 83); have gx := keep1 HA (keep_below H1.out _ _ GW.out); have hlt := inHeap k0; have k0 := keep1 HA k0; have k1 := keep1 HA k1; have k2 := keep1 HA k2; have f0 := keepF HA hlt f0; have f1 := keepF HA hlt f1; have f2 := keepF HA hlt f2; clear hb HH HA hlt)
  exact bodyPost_ret (v := .tuple #[hv false 0 0, eN 12]) (by simp [results, Tryd.results43, go_sem, hv, eN, k0, k1, k2]) rfl ⟨rfl, (((H1.out.alloc H1.out.size _).setCell (Nat.le_refl _) _).setCell (Nat.le_refl _) _).setCell (Nat.le_refl _) _⟩
set_option maxHeartbeats 2000000 in
set_option maxRecDepth 100000 in
theorem head_text_one (w : World) (n c b o F : Nat) (hF : 128 ≤ F) (hF2 : F ≤ 183) (hc : w.cell? ⟨b, o, none⟩ = some (.int .u8 F)) (hn : 1 ≤ n) (X : Nat) (hX : 128 ≤ X) (hn2 : 2 ≤ n) (gw : w.cell? ⟨b, o + 1, none⟩ = some (.int .u8 X))
    (h : ∀ y, Below w.heap.size w y → Calls Tryd.prog 51 #[.slice (some ⟨b, o, none⟩) n c, .int .i64 ((F : Int) - 128)] y fun e w' => e = .returned (.tuple #[.agg #[.bool false, .int .i64 1, .int .i64 1], .nilIface]) ∧ Below y.heap.size y w') :
    Calls Tryd.prog 43 #[.slice (some ⟨b, o, none⟩) n c] w fun e w' => e = .returned (.tuple #[hv false 1 1, .nilIface]) ∧ Below w.heap.size w w' := by
  have HB0 : Hid (Below w.heap.size w (w.alloc (.cells #[.bool false, .int .i64 0, .int .i64 0] 83))) := Lib.hid ((Below.refl _ _).alloc (Nat.le_refl _) _)
  have g0 := keep_below HB0.out _ _ hc
  have h1 : decide ((F : Int) < 128) = false := by simp; omega
  have h3 : (F : Int) ≤ 183 := by omega
  have h2 : (0 : Int) < n := by omega
  have hw : wrap64 (F : Int) = F := by unfold wrap64; omega
  have HH := Lib.hid (h _ HB0.out)
  clear hF hF2 hc hn h
  have hx1 : decide ((X : Int) < 128) = false := by simp; omega
  have hn1 : (1 : Int) < n := by omega
  have GW := Lib.hid gw
  clear gw hX hn2
  go_enter Tryd.func43, Tryd.ntmps43
  go_wp2_with (go_at_call 51; (with_reducible refine HH.out.mono ?_); rintro e y1 ⟨rfl, hb⟩; have H1 := Lib.hid (bl HB0.out hb); have k0 := keep1 hb (o := 0) (b := w.heap.size) (x := .bool false) (by simp); have k1 := keep1 hb (o := 1) (b := w.heap.size) (x := .int .i64 0) (by simp); have k2 := keep1 hb (o := 2) (b := w.heap.size) (x := .int .i64 0) (by simp); have f0 := keepF hb (b := w.heap.size) (o := 0) (by simp) (by simp); have f1 := keepF hb (b := w.heap.size) (o := 1) (by simp) (by simp); have f2 := keepF hb (b := w.heap.size) (o := 2) (by simp) (by simp); have HA := (Below.refl y1.heap.size y1).alloc (Nat.le_refl _) (.cells #[.bool false, .int .i64 1, .int .i64 1] 83); have gx := keep1 HA (keep_below H1.out _ _ GW.out); have hlt := inHeap k0; have k0 := keep1 HA k0; have k1 := keep1 HA k1; have k2 := keep1 HA k2; have f0 := keepF HA hlt f0; have f1 := keepF HA hlt f1; have f2 := keepF HA hlt f2; clear hb HH HA hlt)
  exact bodyPost_ret (v := .tuple #[hv false 1 1, .nilIface]) (by simp [results, Tryd.results43, go_sem, hv, eN, k0, k1, k2]) rfl ⟨rfl, (((H1.out.alloc H1.out.size _).setCell (Nat.le_refl _) _).setCell (Nat.le_refl _) _).setCell (Nat.le_refl _) _⟩
set_option maxHeartbeats 2000000 in
set_option maxRecDepth 100000 in
theorem head_text_ok (w : World) (n c b o F : Nat) (hF : 128 ≤ F) (hF2 : F ≤ 183) (hc : w.cell? ⟨b, o, none⟩ = some (.int .u8 F)) (hn : 1 ≤ n) (m : Nat) (hm : m ≠ 1)
    (h : ∀ y, Below w.heap.size w y → Calls Tryd.prog 51 #[.slice (some ⟨b, o, none⟩) n c, .int .i64 ((F : Int) - 128)] y fun e w' => e = .returned (.tuple #[.agg #[.bool false, .int .i64 1, .int .i64 m], .nilIface]) ∧ Below y.heap.size y w') :
    Calls Tryd.prog 43 #[.slice (some ⟨b, o, none⟩) n c] w fun e w' => e = .returned (.tuple #[hv false 1 m, .nilIface]) ∧ Below w.heap.size w w' := by
  have HB0 : Hid (Below w.heap.size w (w.alloc (.cells #[.bool false, .int .i64 0, .int .i64 0] 83))) := Lib.hid ((Below.refl _ _).alloc (Nat.le_refl _) _)
  have g0 := keep_below HB0.out _ _ hc
  have h1 : decide ((F : Int) < 128) = false := by simp; omega
  have h3 : (F : Int) ≤ 183 := by omega
  have h2 : (0 : Int) < n := by omega
  have hw : wrap64 (F : Int) = F := by unfold wrap64; omega
  have HH := Lib.hid (h _ HB0.out)
  clear hF hF2 hc hn h
  have hm1 : ((m : Int) == 1) = false := by
    have : ¬ (m : Int) = 1 := by omega
    simpa using this
  clear hm
  go_enter Tryd.func43, Tryd.ntmps43
  go_wp2_with (go_at_call 51; (with_reducible refine HH.out.mono ?_); rintro e y1 ⟨rfl, hb⟩; have H1 := Lib.hid (bl HB0.out hb); have k0 := keep1 hb (o := 0) (b := w.heap.size) (x := .bool false) (by simp); have k1 := keep1 hb (o := 1) (b := w.heap.size) (x := .int .i64 0) (by simp); have k2 := keep1 hb (o := 2) (b := w.heap.size) (x := .int .i64 0) (by simp); have f0 := keepF hb (b := w.heap.size) (o := 0) (by simp) (by simp); have f1 := keepF hb (b := w.heap.size) (o := 1) (by simp) (by simp); have f2 := keepF hb (b := w.heap.size) (o := 2) (by simp) (by simp); have HA := (Below.refl y1.heap.size y1).alloc (Nat.le_refl _) (.cells #[.bool false, .int .i64 1, .int .i64 m] 83); have hlt := inHeap k0; have k0 := keep1 HA k0; have k1 := keep1 HA k1; have k2 := keep1 HA k2; have f0 := keepF HA hlt f0; have f1 := keepF HA hlt f1; have f2 := keepF HA hlt f2; clear hb HH HA hlt)
  exact bodyPost_ret (v := .tuple #[hv false 1 m, .nilIface]) (by simp [results, Tryd.results43, go_sem, hv, eN, k0, k1, k2]) rfl ⟨rfl, (((H1.out.alloc H1.out.size _).setCell (Nat.le_refl _) _).setCell (Nat.le_refl _) _).setCell (Nat.le_refl _) _⟩
end Rl
end Go.Proofs.YthlmjcochpodgaaDoor
