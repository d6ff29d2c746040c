/- Merged of Lwc Lwd. Own work. -/
import Derived.Test.YtbenjgncbpafbaaGreatDoorP13
namespace Go.Proofs.YtbenjgncbpafbaaGreatDoor
open Go.RowKit
set_option linter.unusedVariables false
set_option linter.unusedSimpArgs false
namespace Lo
open Kc Vm Ir
theorem two_more {xs : List Value} {a b : Value} : xs ++ [a] ++ [b] = xs ++ [a, b] := by simp
set_option maxHeartbeats 1000000 in
set_option maxRecDepth 100000 in
theorem statement_walk (w : World) (q : Nat) (f : Nat → Value) (n : Nat) (xs : List Value) (n0 bo : Int) (bn : Nat) (aA aB a8 a9 : Option Addr) (mA cA mB cB m8 c8 m9 c9 : Nat) (h : Cm w q f n xs) (hn : n < 900) :
    Calls Tryz.prog 48 #[.pointer (some ⟨q, 0, none⟩), .agg #[.int .i64 7, .int .i64 n0, .int .i64 26, .int .u64 18446744073709551615, .slice aA mA cA, .int .i64 bo, .int .u64 bn, .slice aB mB cB, .slice a8 m8 c8, .slice a9 m9 c9]] w fun e w' => e = .returned (.tuple #[]) ∧ ∃ V', Em w w' q f V' (n + 2) (xs ++ [.int .u64 1878001048908464127, .int .u64 281474976710656]) := by
  have HB := Lib.hid (Bt10.new w (.int .i64 7) (.int .i64 n0) (.int .i64 26) (.int .u64 18446744073709551615) (.slice aA mA cA) (.int .i64 bo) (.int .u64 bn) (.slice aB mB cB) (.slice a8 m8 c8) (.slice a9 m9 c9) 50)
  have HK := Lib.hid ((Kept.refl (fun _ => False) w).alloc (.cells #[.int .i64 7, .int .i64 n0, .int .i64 26, .int .u64 18446744073709551615, .slice aA mA cA, .int .i64 bo, .int .u64 bn, .slice aB mB cB, .slice a8 m8 c8, .slice a9 m9 c9] 50))
  have HC := Lib.hid (operand_walk _ q f n xs aA mA cA (h.next HK.out) (by omega))
  have HN := Lib.hid (And.intro hn h.t.lt)
  clear h hn
  go_enter Tryz.func48, Tryz.ntmps48
  go_upto_region 1 with (fail)
  generalize w.alloc (.cells #[.int .i64 7, .int .i64 n0, .int .i64 26, .int .u64 18446744073709551615, .slice aA mA cA, .int .i64 bo, .int .u64 bn, .slice aB mB cB, .slice a8 m8 c8, .slice a9 m9 c9] 50) = y at *
  generalize hp : w.heap.size = p at *
  have HP := Lib.hid hp
  clear hp
  have k0 := HB.out.c0
  have HL := Lib.hid HB.out.loadA
  go_upto_region 23 with (fail)
  clear k0
  go_wp2_with (first
    | ((with_reducible refine wpList_loadE (P := Tryz.prog) (w := y) (ty := 47) (x := .tmp 100) (p := .pointer (some ⟨p, 2, none⟩)) (v := .agg #[.int .i64 26, .int .u64 18446744073709551615, .slice aA mA cA]) ?_ ?_ ?_ HL.out ?_); (· exact rfl); (· exact rfl); (· exact rfl))
    | (go_at_call 63; (with_reducible refine HC.out.mono ?_); rintro e w1 ⟨he, V1, H1⟩; obtain rfl : e = _ := he; have H1 := Lib.hid H1; clear HC; have HE := Lib.hid (emit_em w1 q (updv f 4 V1) (n + 1) (xs ++ [.int .u64 1878001048908464127]) 0 0 1 0 0 0 _ H1.out.c (by have := HN.out.1; omega) cV2))
    | (go_at_call 26; (with_reducible refine HE.out.mono ?_); rintro e w2 ⟨he, V2, H2⟩; obtain rfl : e = _ := he; have H2 := Lib.hid H2; clear HE))

  exact bodyPost_end (v := .tuple #[]) (by simp [results, Tryz.results48, go_sem]) rfl ⟨rfl, V2, by
    have := Em.pre HK.out (Em.trans (Nat.lt_of_lt_of_le HN.out.2 (by have := HK.out.size; rw [HP.out] at this; exact this)) H1.out H2.out)
    rwa [two_more] at this⟩
/-- The statement that ends with the greatest number, alone. -/
abbrev T7 : Sf := .cons 7 0 26 18446744073709551615 .nil 0 0 .nil .nil .nil .nil
theorem t7_at {w : World} {D : Nat → Prop} {b o : Nat} (h : SfAt w D T7 b o) : ∃ aA mA cA aB mB cB a8 m8 c8 a9 m9 c9, w.cell? ⟨b, o, none⟩ = some (.int .i64 7) ∧ (Instr.loadAt 50 (.pointer (some ⟨b, o, none⟩))).run Tryz.prog w = .ok (.agg #[.int .i64 7, .int .i64 0, .int .i64 26, .int .u64 18446744073709551615, .slice aA mA cA, .int .i64 0, .int .u64 0, .slice aB mB cB, .slice a8 m8 c8, .slice a9 m9 c9]) w := by
  unfold SfAt at h
  obtain ⟨h1, h2, h3, h4, h5, h6, h7, ⟨VA, h8, h9⟩, h10, h11, ⟨VB, h12, h13⟩, ⟨a8, c8, h14, l8, h15⟩, ⟨a9, c9, h16, l9, h17⟩, h18⟩ := h
  obtain ⟨aA, cA, rfl, lA, hA⟩ := h9
  obtain ⟨aB, cB, rfl, lB, hB⟩ := h13
  exact ⟨aA, _, cA, aB, _, cB, a8, _, c8, a9, _, c9, h4, loadT h4 h5 h6 h7 h8 h10 h11 h12 h14 h16⟩
set_option maxHeartbeats 2000000 in
set_option maxRecDepth 100000 in
theorem list_walk7 (w : World) (q : Nat) (f : Nat → Value) (n : Nat) (xs : List Value) (D : Nat → Prop) (L : Value) (h : Cm w q f n xs) (hn : n < 900) (hL : SlS w D L T7) :
    Calls Tryz.prog 28 #[.pointer (some ⟨q, 0, none⟩), L] w fun e w' => e = .returned (.tuple #[]) ∧ ∃ V', Em w w' q f V' (n + 2) (xs ++ [.int .u64 1878001048908464127, .int .u64 281474976710656]) := by
  obtain ⟨a, c, rfl, _, hV⟩ := hL
  obtain ⟨b, o, rfl, hat⟩ : ∃ b o, a = some ⟨b, o, none⟩ ∧ SfAt w D T7 b o := by
    rcases hV with h | h
    · cases h
    · exact h
  obtain ⟨aA, mA, cA, aB, mB, cB, a8, m8, c8, a9, m9, c9, _, hl⟩ := t7_at hat
  have HL := Lib.hid hl
  have HC := Lib.hid (And.intro h hn)
  clear hV hat hl h hn
  show Calls Tryz.prog 28 #[.pointer (some ⟨q, 0, none⟩), .slice (some ⟨b, o, none⟩) 1 c] w _
  go_enter Tryz.func28, Tryz.ntmps28
  go_upto_region 1 with (fail)
  go_loopw [8] (fun t y => (t = .int .i64 0 ∧ y = w) ∨ (t = .int .i64 1 ∧ Hid (∃ V', Em w y q f V' (n + 2) (xs ++ [.int .u64 1878001048908464127, .int .u64 281474976710656])))) (fun t _ => 1 - (intOf t).toNat)
  case atStart => exact .inl ⟨rfl, rfl⟩
  case round =>
    rcases hrel with ⟨rfl, rfl⟩ | ⟨rfl, hp⟩
    · have hk1 : Kept (fun _ => False) wr (wr.alloc (.cells #[.int .i64 7, .int .i64 0, .int .i64 26, .int .u64 18446744073709551615, .slice aA mA cA, .int .i64 0, .int .u64 0, .slice aB mB cB, .slice a8 m8 c8, .slice a9 m9 c9] 50)) := (Kept.refl _ wr).alloc _
      have HL2 := Lib.hid (Bt10.new wr (.int .i64 7) (.int .i64 0) (.int .i64 26) (.int .u64 18446744073709551615) (.slice aA mA cA) (.int .i64 0) (.int .u64 0) (.slice aB mB cB) (.slice a8 m8 c8) (.slice a9 m9 c9) 50).load
      have HS := Lib.hid (statement_walk _ q f n xs 0 0 0 aA aB a8 a9 mA cA mB cB m8 c8 m9 c9 (HC.out.1.next hk1) HC.out.2)
      have HI9 : Hid ((Tryz.prog.info? 50).map (·.size) = some (#[.int .i64 7, .int .i64 0, .int .i64 26, .int .u64 18446744073709551615, .slice aA mA cA, .int .i64 0, .int .u64 0, .slice aB mB cB, .slice a8 m8 c8, .slice a9 m9 c9] : Array Value).size ∧ zT.size = (#[.int .i64 7, .int .i64 0, .int .i64 26, .int .u64 18446744073709551615, .slice aA mA cA, .int .i64 0, .int .u64 0, .slice aB mB cB, .slice a8 m8 c8, .slice a9 m9 c9] : Array Value).size ∧ (#[.int .i64 7, .int .i64 0, .int .i64 26, .int .u64 18446744073709551615, .slice aA mA cA, .int .i64 0, .int .u64 0, .slice aB mB cB, .slice a8 m8 c8, .slice a9 m9 c9] : Array Value).all (·.oneCell') = true) := Lib.hid ⟨infT, rfl, by simp [Value.oneCell']⟩
      have HK1 := Lib.hid hk1
      clear hk1
      generalize (#[.int .i64 7, .int .i64 0, .int .i64 26, .int .u64 18446744073709551615, .slice aA mA cA, .int .i64 0, .int .u64 0, .slice aB mB cB, .slice a8 m8 c8, .slice a9 m9 c9] : Array Value) = ag at *
      go_upto_region 3 with (first
        | ((with_reducible refine wpList_loadE (P := Tryz.prog) (w := wr) (ty := 50) (x := .tmp 10) (p := .pointer (some ⟨b, o, none⟩)) (v := .agg ag) ?_ ?_ ?_ HL.out ?_); (· exact rfl); (· exact rfl); (· exact rfl))
        | ((with_reducible refine wpList_store_row (P := Tryz.prog) (w := wr.alloc (.cells zT 50)) ?_ 50 (.tmp 5) (.tmp 11) ?_ wr.heap.size ag ?_ ?_ 50 zT (heap_alloc_last wr _) HI9.out.1 HI9.out.2.1 HI9.out.2.2 ?_); (· exact rfl); (· exact rfl); (· exact rfl); (· exact rfl); rw [World.setRow_alloc_new]; simp only [Act.put]))
      clear HL
      generalize wr.alloc (.cells ag 50) = y1 at *
      generalize wr.heap.size = qa at *
      go_upto_region 4 with (first
        | ((with_reducible refine wpList_loadE (P := Tryz.prog) (w := y1) (ty := 50) (x := .tmp 5) (p := .pointer (some ⟨qa, 0, none⟩)) (v := .agg ag) ?_ ?_ ?_ HL2.out ?_); (· exact rfl); (· exact rfl); (· exact rfl))
        | (go_at_call 48; (with_reducible refine HS.out.mono ?_); rintro e y2 ⟨he, V1, H1⟩; obtain rfl : e = _ := he; have H1 := Lib.hid (Em.pre HK1.out H1); clear HS))
      go_wp2_with (fail)
      go_roundw
      case rel => exact .inr ⟨rfl, Lib.hid ⟨V1, H1.out⟩⟩
      case measure => simp [intOf, wrap64]
    · clear HL HC
      go_wp2_with (fail)
      exact bodyPost_end (v := .tuple #[]) (by simp [results, Tryz.results28, go_sem]) rfl ⟨rfl, hp.out⟩
set_option maxHeartbeats 2000000 in
set_option maxRecDepth 100000 in
theorem leaves_walk7 (w : World) (D : Nat → Prop) (L : Value) (hL : SlS w D L T7) :
    Calls Tryz.prog 29 #[L] w fun e w' => e = .returned (.bool true) ∧ Kept (fun _ => False) w w' := by
  obtain ⟨a, c, rfl, _, hV⟩ := hL
  obtain ⟨b, o, rfl, hat⟩ : ∃ b o, a = some ⟨b, o, none⟩ ∧ SfAt w D T7 b o := by
    rcases hV with h | h
    · cases h
    · exact h
  obtain ⟨aA, mA, cA, aB, mB, cB, a8, m8, c8, a9, m9, c9, _, hl⟩ := t7_at hat
  have HL := Lib.hid hl
  have hk1 : Kept (fun _ => False) w (w.alloc (.cells #[.int .i64 7, .int .i64 0, .int .i64 26, .int .u64 18446744073709551615, .slice aA mA cA, .int .i64 0, .int .u64 0, .slice aB mB cB, .slice a8 m8 c8, .slice a9 m9 c9] 50)) := (Kept.refl _ w).alloc _
  have HB := Lib.hid (Bt10.new w (.int .i64 7) (.int .i64 0) (.int .i64 26) (.int .u64 18446744073709551615) (.slice aA mA cA) (.int .i64 0) (.int .u64 0) (.slice aB mB cB) (.slice a8 m8 c8) (.slice a9 m9 c9) 50)
  have HI9 : Hid ((Tryz.prog.info? 50).map (·.size) = some (#[.int .i64 7, .int .i64 0, .int .i64 26, .int .u64 18446744073709551615, .slice aA mA cA, .int .i64 0, .int .u64 0, .slice aB mB cB, .slice a8 m8 c8, .slice a9 m9 c9] : Array Value).size ∧ zT.size = (#[.int .i64 7, .int .i64 0, .int .i64 26, .int .u64 18446744073709551615, .slice aA mA cA, .int .i64 0, .int .u64 0, .slice aB mB cB, .slice a8 m8 c8, .slice a9 m9 c9] : Array Value).size ∧ (#[.int .i64 7, .int .i64 0, .int .i64 26, .int .u64 18446744073709551615, .slice aA mA cA, .int .i64 0, .int .u64 0, .slice aB mB cB, .slice a8 m8 c8, .slice a9 m9 c9] : Array Value).all (·.oneCell') = true) := Lib.hid ⟨infT, rfl, by simp [Value.oneCell']⟩
  have HK1 := Lib.hid hk1
  clear hV hat hl hk1
  show Calls Tryz.prog 29 #[.slice (some ⟨b, o, none⟩) 1 c] w _
  generalize (#[.int .i64 7, .int .i64 0, .int .i64 26, .int .u64 18446744073709551615, .slice aA mA cA, .int .i64 0, .int .u64 0, .slice aB mB cB, .slice a8 m8 c8, .slice a9 m9 c9] : Array Value) = ag at *
  go_enter Tryz.func29, Tryz.ntmps29
  go_upto_region 4 with (first
    | ((with_reducible refine wpList_loadE (P := Tryz.prog) (w := w) (ty := 50) (x := .tmp 11) (p := .pointer (some ⟨b, o, none⟩)) (v := .agg ag) ?_ ?_ ?_ HL.out ?_); (· exact rfl); (· exact rfl); (· exact rfl))
    | ((with_reducible refine wpList_store_row (P := Tryz.prog) (w := w.alloc (.cells zT 50)) ?_ 50 (.tmp 3) (.tmp 12) ?_ w.heap.size ag ?_ ?_ 50 zT (heap_alloc_last w _) HI9.out.1 HI9.out.2.1 HI9.out.2.2 ?_); (· exact rfl); (· exact rfl); (· exact rfl); (· exact rfl); rw [World.setRow_alloc_new]; simp only [Act.put]))
  clear HL HI9
  generalize w.alloc (.cells ag 50) = y1 at *
  generalize w.heap.size = qa at *
  have k0 := HB.out.c0
  go_wp2_with (fail)
  exact bodyPost_ret (v := .bool true) (by simp [results, Tryz.results29, go_sem]) rfl ⟨rfl, HK1.out⟩
set_option maxHeartbeats 1000000 in
set_option maxRecDepth 100000 in
theorem enter_walk (w : World) (q : Nat) (f : Nat → Value) (p l : Int) (a : Option Addr) (m c : Nat) (h : IsTab w q 72 13 f) (h10 : f 10 = .int .i64 0) :
    Calls Tryz.prog 27 #[.pointer (some ⟨q, 0, none⟩), .agg #[.int .i64 p, .int .i64 l, .slice a m c]] w fun e w' => e = .returned (.tuple #[]) ∧ Kept (fun _ => False) w w' := by
  have hk1 : Kept (fun _ => False) w (w.alloc (.cells #[.int .i64 p, .int .i64 l, .slice a m c] 52)) := (Kept.refl _ w).alloc _
  have k10 := (tab_kept h hk1 id).cell 10 (by decide)
  rw [h10] at k10
  have K10 := Lib.hid k10
  have HK1 := Lib.hid hk1
  clear h h10 k10 hk1
  go_enter Tryz.func27, Tryz.ntmps27
  go_upto_region 1 with (fail)
  generalize w.alloc (.cells #[.int .i64 p, .int .i64 l, .slice a m c] 52) = y at *
  have k10 := K10.out
  go_wp2_with (fail)
  exact bodyPost_ret (v := .tuple #[]) (by simp [results, Tryz.results27, go_sem]) rfl ⟨rfl, HK1.out⟩
end Lo
end Go.Proofs.YtbenjgncbpafbaaGreatDoor
namespace Go.Proofs.YtbenjgncbpafbaaGreatDoor
open Go.RowKit
set_option linter.unusedVariables false
set_option linter.unusedSimpArgs false
namespace Lo
open Kc Vm Ir
theorem row_none (w : World) (b e s : Nat) : w.ownsRow b e s (.slice none 0 0) 0 [] := ⟨by simp, .inl ⟨rfl, rfl⟩⟩
theorem row_lt {w : World} {B e size n : Nat} {v : Value} {xs : List Value} (h : w.ownsRow B e size v n xs) : ∀ k, v.ownBlock = some k → k < w.heap.size := by
  intro k e1
  rcases h.2 with ⟨rfl, _⟩ | ⟨g, cap, cur, rfl, hb, hg, _⟩
  · cases e1
  · cases e1; exact (Array.getElem?_eq_some_iff.1 hg).1
/-- A compiler that begins. -/
def cf (pv l0 l1 l2 : Value) (bm : Nat) : Nat → Value := fun i => if i = 0 then pv else if i = 1 then l0 else if i = 2 then l1 else if i = 3 then l2 else if i = 7 then .map (some bm) else if i < 10 then .slice none 0 0 else .int .i64 0
/-- What a pass has made so far: W the start, y now. -/
structure Cb (W y : World) (q : Nat) (f : Nat → Value) (n : Nat) (xs : List Value) : Prop where
  c : Cm y q f n xs
  kp : Kept (fun _ => False) W y
  q0 : W.heap.size ≤ q
  o0 : ∀ k, (f 4).ownBlock = some k → W.heap.size ≤ k
section
variable {W y y' : World} {q : Nat} {f : Nat → Value} {n m : Nat} {xs ys : List Value} {V : Value}
theorem Cb.next (h : Cb W y q f n xs) (hk : Kept (fun _ => False) y y') : Cb W y' q f n xs := ⟨h.c.next hk, h.kp.trans hk fun _ _ e => e, h.q0, h.o0⟩
theorem Cb.em (h : Cb W y q f n xs) (e : Em y y' q f V m ys) : Cb W y' q (updv f 4 V) m ys :=
  ⟨e.c, h.kp.trans e.kp fun i hi hh => by
    rcases hh with hh | hh
    · have := h.q0; omega
    · have := h.o0 i hh; omega, h.q0, fun k hk => by
    rw [updv_same] at hk
    rcases e.nw k hk with hh | hh
    · exact h.o0 k hh
    · exact Nat.le_trans h.kp.size hh⟩
/-- One cell that is not the words' is written. -/
theorem Cb.set (h : Cb W y q f n xs) (i : Nat) (hi : ¬ i = 4) (v : Value) : Cb W (y.setCell ⟨q, i, none⟩ v) q (updv f i v) n xs := by
  have e4 : updv f i v 4 = f 4 := by unfold updv; rw [if_neg (fun e => hi e.symm)]
  have hs : Kept (fun k => k = q) y (y.setCell ⟨q, i, none⟩ v) := (Kept.refl (fun k => k = q) y).setCell (p := ⟨q, i, none⟩) (.inl rfl) _
  refine ⟨⟨h.c.t.set i v, by rw [e4]; exact hs.row h.c.r fun k e hk => h.c.ne (by rw [← hk]; exact e), by rw [e4]; exact h.c.ne⟩, h.kp.trans hs fun k hk e => by have := h.q0; omega, h.q0, by rw [e4]; exact h.o0⟩
theorem Cb.same (h : Cb W y q f n xs) {g : Nat → Value} (e : ∀ i, i < 13 → f i = g i) : Cb W y q g n xs :=
  ⟨⟨h.c.t.cong e, by rw [← e 4 (by decide)]; exact h.c.r, by rw [← e 4 (by decide)]; exact h.c.ne⟩, h.kp, h.q0, by rw [← e 4 (by decide)]; exact h.o0⟩
end
theorem undY : Tryz.prog.underlying 67 = some (.struct (Tryz.prog.fieldsOf 67)) := by kernel_rfl
theorem infY : (Tryz.prog.info? 67).map (·.size) = some 3 := by kernel_rfl
theorem loadY {w : World} {b o : Nat} {l0 l1 l2 : Value} (h0 : w.cell? ⟨b, o, none⟩ = some l0) (h1 : w.cell? ⟨b, o + 1, none⟩ = some l1) (h2 : w.cell? ⟨b, o + 2, none⟩ = some l2) : (Instr.loadAt 67 (.pointer (some ⟨b, o, none⟩))).run Tryz.prog w = .ok (.agg #[l0, l1, l2]) w := by
  refine run_loadAt_mid w b o _ [l0, l1, l2] _ (fun i v hv => ?_) undY rfl (by rw [infY]; rfl)
  match i, hv with
  | 0, hv => cases hv; exact h0
  | 1, hv => cases hv; exact h1
  | 2, hv => cases hv; exact h2
  | i + 3, hv => simp at hv
theorem buildC (pa fa : Option Addr) (pn pc fn fc : Nat) (l0 l2 : Int) (bm : Nat) (w : World) : (Instr.build 72 #[(0, .slice pa pn pc), (1, .agg #[.int .i64 l0, .slice fa fn fc, .int .i64 l2]), (5, .map (some bm))]).run Tryz.prog w = .ok (.agg (tab 13 (cf (.slice pa pn pc) (.int .i64 l0) (.slice fa fn fc) (.int .i64 l2) bm))) w := by kernel_rfl
theorem infY3 {a b c : Value} : (Tryz.prog.info? 67).map (·.size) = some (#[a, b, c] : Array Value).size := by kernel_rfl
theorem p_at {w : World} {D : Nat → Prop} {b o pc : Nat} (h : SlP w D (.slice (some ⟨b, o, none⟩) 1 pc) [⟨0, 0, T7⟩]) : ∃ aL cL, (Instr.loadAt 52 (.pointer (some ⟨b, o, none⟩))).run Tryz.prog w = .ok (.agg #[.int .i64 0, .int .i64 0, .slice aL 1 cL]) w ∧ SlS w D (.slice aL 1 cL) T7 := by
  obtain ⟨a, c, e, _, hpp⟩ := h
  injection e with e1 e2 e3
  subst e1
  rcases hpp with e | ⟨b', o', e, hF⟩
  · cases e
  · injection e with e
    injection e with e1 e2
    subst e1; subst e2
    obtain ⟨_, f2, f3, VB, f4, f5⟩ := hF 0 ⟨0, 0, T7⟩ rfl
    obtain ⟨ab, cb, rfl, lb, hb⟩ := f5
    exact ⟨ab, cb, loadF f2 f3 f4, ab, cb, rfl, lb, hb⟩
theorem map_next {y y' : World} {bm : Nat} (h : y.heap[bm]? = some (.map #[] 0)) (hk : Kept (fun _ => False) y y') : y'.heap[bm]? = some (.map #[] 0) := by
  rw [hk.block bm (Array.getElem?_eq_some_iff.1 h).1 id]; exact h
theorem map_kept {y y' : World} {bm : Nat} {S : Nat → Prop} (h : y.heap[bm]? = some (.map #[] 0)) (hk : Kept S y y') (hn : ¬ S bm) : y'.heap[bm]? = some (.map #[] 0) := by
  rw [hk.block bm (Array.getElem?_eq_some_iff.1 h).1 hn]; exact h
theorem map_tab {y : World} {bm q T n : Nat} {g : Nat → Value} (h : y.heap[bm]? = some (.map #[] 0)) (t : IsTab y q T n g) : ¬ bm = q := fun e => by
  subst e; unfold IsTab at t; rw [h] at t; cases t
theorem map_row {y : World} {bm B e s n : Nat} {v : Value} {xs : List Value} (h : y.heap[bm]? = some (.map #[] 0)) (r : y.ownsRow B e s v n xs) : ¬ v.ownBlock = some bm := fun e => by
  rcases r.2 with ⟨rfl, _⟩ | ⟨g, cap, cur, rfl, hb, hg, _⟩
  · cases e
  · cases e; rw [h] at hg; cases hg
theorem map_em {y y' : World} {bm q n m : Nat} {f : Nat → Value} {V : Value} {xs ys : List Value} (h : y.heap[bm]? = some (.map #[] 0)) (c : Cm y q f n xs) (e : Em y y' q f V m ys) : y'.heap[bm]? = some (.map #[] 0) :=
  map_kept h e.kp (by rintro (e | e); exact map_tab h c.t e; exact map_row h c.r e)
theorem map_set {y : World} {bm q T n i : Nat} {g : Nat → Value} {v : Value} (h : y.heap[bm]? = some (.map #[] 0)) (t : IsTab y q T n g) : (y.setCell ⟨q, i, none⟩ v).heap[bm]? = some (.map #[] 0) :=
  map_kept h ((Kept.refl (fun k => k = q) y).setCell (p := ⟨q, i, none⟩) (.inl rfl) v) (map_tab h t)
theorem wpList_build3 {P : Program} {ops : Array Oper} {rest : List Oper} {op : Oper} {a : Act} {w : World} {Q : Exit → Act → World → Prop} (hgd : op.guard = none) (t : TypeId) (i j k : Nat) (x x' x'' : Operand) (ho : op.op = .build t #[(i, x), (j, x'), (k, x'')]) (p p' p'' v : Value) (hx : a.eval x = p) (hx' : a.eval x' = p') (hx'' : a.eval x'' = p'') (hl : (Instr.build t #[(i, p), (j, p'), (k, p'')]).run P w = .ok v w)
    (h : wpList P ops Q rest (a.put op.dst v) w) : wpList P ops Q (op :: rest) a w :=
  wpList_plain hgd fun K hK => by
    unfold Oper.wp execOp
    simp only [ho, List.map_toArray, List.map_cons, List.map_nil, hx, hx', hx'']
    simp [hl]
    exact hK _ _ h
set_option maxHeartbeats 4000000 in
set_option maxRecDepth 100000 in
theorem pass_walk (w : World) (b o pc : Nat) (hp : SlP w (fun k => k < w.heap.size) (.slice (some ⟨b, o, none⟩) 1 pc) [⟨0, 0, T7⟩]) (l0 l2 : Int) (fa : Option Addr) (fn fc : Nat) :
    Calls Tryz.prog 16 #[(.slice (some ⟨b, o, none⟩) 1 pc), .agg #[.int .i64 l0, .slice fa fn fc, .int .i64 l2]] w fun e w' => ∃ q V S Z bm, e = .returned (.pointer (some ⟨q, 0, none⟩)) ∧ Cb w w' q (updv (updv (updv (cf (.slice (some ⟨b, o, none⟩) 1 pc) (.int .i64 l0) (.slice fa fn fc) (.int .i64 l2) bm) 4 V) 6 S) 9 Z) 3 [.int .u64 1941051439396689920, .int .u64 1878001048908464127, .int .u64 281474976710656] ∧ w'.ownsRow 0 3 1 Z 1 [.int .i64 1] ∧ w'.heap[bm]? = some (.map #[] 0) ∧ ¬ Z.ownBlock = some q := by
  have HSP := Lib.hid hp
  have hk1 : Kept (fun _ => False) w (w.alloc (.cells #[.int .i64 l0, .slice fa fn fc, .int .i64 l2] 67)) := (Kept.refl _ w).alloc _
  have HB1 := Lib.hid (Bx.new w (.int .i64 l0) (.slice fa fn fc) (.int .i64 l2) 67)
  have HK1 := Lib.hid hk1
  have hmm := @run_makeMap Tryz.prog
  clear hp hk1
  go_enter Tryz.func16, Tryz.ntmps16
  go_upto_region 1 with (fail)
  generalize w.alloc (.cells #[.int .i64 l0, .slice fa fn fc, .int .i64 l2] 67) = y1 at *
  generalize hq0 : w.heap.size = q0 at *
  have HQ0 := Lib.hid hq0
  clear hq0
  have HL1 := Lib.hid (loadY (o := 0) HB1.out.c0 HB1.out.c1 HB1.out.c2)
  have HBC := Lib.hid (buildC (some ⟨b, o, none⟩) fa 1 pc fn fc l0 l2 y1.heap.size (y1.alloc (.map #[] 0)))
  have HT3 := Lib.hid (IsTab.new (y1.alloc (.map #[] 0)) 72 13 (cf (.slice (some ⟨b, o, none⟩) 1 pc) (.int .i64 l0) (.slice fa fn fc) (.int .i64 l2) y1.heap.size))
  have HM3 : Hid (((y1.alloc (.map #[] 0)).alloc (.cells (tab 13 (cf (.slice (some ⟨b, o, none⟩) 1 pc) (.int .i64 l0) (.slice fa fn fc) (.int .i64 l2) y1.heap.size)) 72)).heap[y1.heap.size]? = some (.map #[] 0)) := Lib.hid (by rw [heap_alloc_old _ _ (by simp)]; exact heap_alloc_last y1 _)
  have HK3 : Hid (Kept (fun _ => False) y1 ((y1.alloc (.map #[] 0)).alloc (.cells (tab 13 (cf (.slice (some ⟨b, o, none⟩) 1 pc) (.int .i64 l0) (.slice fa fn fc) (.int .i64 l2) y1.heap.size)) 72))) := Lib.hid (((Kept.refl (fun _ => False) y1).alloc _).alloc _)
  have HS3 : Hid ((y1.alloc (.map #[] 0)).heap.size = y1.heap.size + 1) := Lib.hid (by simp)
  generalize hz : tab 13 (cf (.slice (some ⟨b, o, none⟩) 1 pc) (.int .i64 l0) (.slice fa fn fc) (.int .i64 l2) y1.heap.size) = ck at *
  have HZ := Lib.hid hz
  clear hz
  go_upto_region 2 with (first
    | ((with_reducible refine wpList_loadE (P := Tryz.prog) (w := y1) (ty := 67) (x := .tmp 3) (p := .pointer (some ⟨q0, 0, none⟩)) (v := .agg #[.int .i64 l0, .slice fa fn fc, .int .i64 l2]) ?_ ?_ ?_ HL1.out ?_); (· exact rfl); (· exact rfl); (· exact rfl))
    | ((with_reducible refine wpList_build3 (P := Tryz.prog) (w := y1.alloc (.map #[] 0)) ?_ 72 0 1 5 (.tmp 8) (.tmp 9) (.tmp 10) ?_ (.slice (some ⟨b, o, none⟩) 1 pc) (.agg #[.int .i64 l0, .slice fa fn fc, .int .i64 l2]) (.map (some y1.heap.size)) (.agg ck) ?_ ?_ ?_ HBC.out ?_); (· exact rfl); (· exact rfl); (· exact rfl); (· exact rfl); (· exact rfl)))
  rw [HS3.out] at HT3
  have HCB : Hid (Cb w ((y1.alloc (.map #[] 0)).alloc (.cells ck 72)) (y1.heap.size + 1) (cf (.slice (some ⟨b, o, none⟩) 1 pc) (.int .i64 l0) (.slice fa fn fc) (.int .i64 l2) y1.heap.size) 0 []) := Lib.hid ⟨⟨HT3.out, row_none _ _ _ _, by simp [cf, Value.ownBlock]⟩, HK1.out.trans HK3.out fun _ _ e => e, by have := HK1.out.size; omega, fun k e => by simp [cf, Value.ownBlock] at e⟩
  generalize (y1.alloc (.map #[] 0)).alloc (.cells ck 72) = y3 at *
  have HBMQ : Hid (y1.heap.size < y1.heap.size + 1) := Lib.hid (by omega)
  generalize y1.heap.size + 1 = q at *
  generalize y1.heap.size = bm at *
  clear HBC HL1 HZ HT3 HK3 HS3 HB1 HK1
  have HE := Lib.hid (emit_em y3 q (cf (.slice (some ⟨b, o, none⟩) 1 pc) (.int .i64 l0) (.slice fa fn fc) (.int .i64 l2) bm) 0 [] 26 15 0 0 0 6144 _ HCB.out.c (by decide) cV0)
  go_upto_region 3 with (go_at_call 26; (with_reducible refine HE.out.mono ?_); rintro e y4 ⟨he, V1, h1⟩; obtain rfl : e = _ := he; obtain ⟨a1, c1, rfl⟩ : ∃ a c, V1 = .slice a 1 c := row_slice (by have := h1.c.r; rwa [updv_same] at this); have H1 := Lib.hid h1; clear HE h1)
  have HM4 := Lib.hid (map_em HM3.out HCB.out.c H1.out)
  have HC4 : Hid (Cb w y4 q (updv (cf (.slice (some ⟨b, o, none⟩) 1 pc) (.int .i64 l0) (.slice fa fn fc) (.int .i64 l2) bm) 4 (.slice a1 1 c1)) 1 [.int .u64 1941051439396689920]) := Lib.hid (HCB.out.em H1.out)
  clear H1 HM3 HCB hmm
  go_upto_region 4 with (fail)
  go_loopw [17] (fun t y => (t = .int .i64 0 ∧ y = y4) ∨ (t = .int .i64 1 ∧ Hid (∃ V S Z, Cb w y q (updv (updv (updv (cf (.slice (some ⟨b, o, none⟩) 1 pc) (.int .i64 l0) (.slice fa fn fc) (.int .i64 l2) bm) 4 V) 6 S) 9 Z) 3 [.int .u64 1941051439396689920, .int .u64 1878001048908464127, .int .u64 281474976710656] ∧ y.ownsRow 0 3 1 Z 1 [.int .i64 1] ∧ y.heap[bm]? = some (.map #[] 0) ∧ ¬ Z.ownBlock = some q))) (fun t _ => 1 - (intOf t).toNat)
  case atStart => exact .inl ⟨rfl, rfl⟩
  case round =>
    rcases hrel with ⟨rfl, rfl⟩ | ⟨rfl, hp⟩
    · obtain ⟨aL, cL, hl, hs⟩ := p_at (HSP.out.kept HC4.out.kp fun _ _ => id)
      have HL := Lib.hid hl
      have HS := Lib.hid hs
      have hk5 : Kept (fun _ => False) wr (wr.alloc (.cells #[.int .i64 0, .int .i64 0, .slice aL 1 cL] 52)) := (Kept.refl _ wr).alloc _
      have HB := Lib.hid (Bx.new wr (.int .i64 0) (.int .i64 0) (.slice aL 1 cL) 52)
      have HFL := Lib.hid (loadF (o := 0) HB.out.c0 HB.out.c1 HB.out.c2)
      have HC5 := Lib.hid (HC4.out.next hk5)
      have HM5 := Lib.hid (map_next HM4.out hk5)
      have HS5 := Lib.hid (HS.out.kept hk5 fun _ _ => id)
      have HI9 : Hid ((Tryz.prog.info? 52).map (·.size) = some (#[.int .i64 0, .int .i64 0, .slice aL 1 cL] : Array Value).size ∧ zF.size = (#[.int .i64 0, .int .i64 0, .slice aL 1 cL] : Array Value).size ∧ (#[.int .i64 0, .int .i64 0, .slice aL 1 cL] : Array Value).all (·.oneCell') = true) := Lib.hid ⟨infF, rfl, by simp [Value.oneCell']⟩
      have HLT : Hid (wr.heap.size < (wr.alloc (.cells #[.int .i64 0, .int .i64 0, .slice aL 1 cL] 52)).heap.size ∧ q < wr.heap.size ∧ ∀ k, (Value.slice a1 1 c1).ownBlock = some k → k < wr.heap.size) := Lib.hid ⟨by simp, HC4.out.c.t.lt, fun k e => row_lt HC4.out.c.r k (by rw [updv_same]; exact e)⟩
      clear hk5 hl hs
      generalize (#[.int .i64 0, .int .i64 0, .slice aL 1 cL] : Array Value) = ag at *
      go_upto_region 6 with (first
        | ((with_reducible refine wpList_loadE (P := Tryz.prog) (w := wr) (ty := 52) (x := .tmp 20) (p := .pointer (some ⟨b, o, none⟩)) (v := .agg ag) ?_ ?_ ?_ HL.out ?_); (· exact rfl); (· exact rfl); (· exact rfl))
        | ((with_reducible refine wpList_store_row (P := Tryz.prog) (w := wr.alloc (.cells zF 52)) ?_ 52 (.tmp 7) (.tmp 21) ?_ wr.heap.size ag ?_ ?_ 52 zF (heap_alloc_last wr _) HI9.out.1 HI9.out.2.1 HI9.out.2.2 ?_); (· exact rfl); (· exact rfl); (· exact rfl); (· exact rfl); rw [World.setRow_alloc_new]; simp only [Act.put]))
      clear HL HI9
      generalize wr.alloc (.cells ag 52) = y5 at *
      generalize hbf : wr.heap.size = bf at *
      have HBF := Lib.hid hbf
      clear hbf
      have k10 := HC5.out.c.t.cell 10 (by decide)
      have f10 := IsTab.fz HC5.out.c.t 10
      have k12 := ((HC5.out.c.t.set 10 (.int .i64 0))).cell 12 (by decide)
      have f12 := IsTab.fz ((HC5.out.c.t.set 10 (.int .i64 0))) 12
      have HC6 := Lib.hid (((HC5.out.set 10 (by decide) (.int .i64 0)).set 12 (by decide) (.int .i64 0)).same (g := (updv (cf (.slice (some ⟨b, o, none⟩) 1 pc) (.int .i64 l0) (.slice fa fn fc) (.int .i64 l2) bm) 4 (.slice a1 1 c1))) (fun i hi => by unfold updv cf; split; (rename_i e; subst e; rfl); split; (rename_i e; subst e; rfl); rfl))
      have HM6 := Lib.hid (map_set (i := 12) (v := .int .i64 0) (map_set (i := 10) (v := .int .i64 0) HM5.out HC5.out.c.t) (HC5.out.c.t.set 10 (.int .i64 0)))
      have hk6 : Kept (fun k => k = q) y5 ((y5.setCell ⟨q, 10, none⟩ (.int .i64 0)).setCell ⟨q, 12, none⟩ (.int .i64 0)) := ((Kept.refl (fun k => k = q) y5).setCell (p := ⟨q, 10, none⟩) (.inl rfl) _).setCell (p := ⟨q, 12, none⟩) (.inl rfl) _
      have HB6 := Lib.hid (Bx.kept HB.out hk6 (by have := HLT.out; omega))
      have HFL6 := Lib.hid (loadF (o := 0) HB6.out.c0 HB6.out.c1 HB6.out.c2)
      obtain ⟨i0, hi0⟩ := infoI
      have HI := Lib.hid hi0
      clear hi0
      have HQ : Hid (∀ k, k < q0 → ¬ k = q) := Lib.hid (fun k hk e => by have := HC6.out.q0; have := HQ0.out; omega)
      have HC7 := Lib.hid (HC6.out.next (kept_d _))
      have HM7 := Lib.hid (map_next HM6.out (kept_d _))
      have HB7 := Lib.hid (Bx.kept HB6.out (kept_d _) id)
      have HS7 := Lib.hid ((HS5.out.kept hk6 HQ.out).kept (kept_d _) fun _ _ => id)
      clear hk6
      go_upto_region 7 with (fail)
      clear k10 f10 k12 f12 HC5 HM5 HB HFL HM4 HC4 HC6 HM6 HB6 HFL6 HS5
      generalize (y5.setCell ⟨q, 10, none⟩ (.int .i64 0)).setCell ⟨q, 12, none⟩ (.int .i64 0) = y6 at *
      refine wp_region_oz (fun y : World => Kept (fun _ => False) y6.drew y) 14 (.take 0 (.take 1 (.take 2 (.take 3 (.take 4 (.take 5 (.take 6 (.take 7 (.take 8 (.take 9 (.one 10 (.one 11 (.one 12 (.one 13 (.one 14 .done))))))))))))))) (by kernel_rfl) (by kernel_rfl) (Kept.refl _ _) ?_
      generalize y6.drew = y7 at *
      have K6 : Hid (y7.cell? ⟨q, 6, none⟩ = some (.slice none 0 0)) := Lib.hid (HC7.out.c.t.cell 6 (by decide))
      have K4 : Hid (y7.cell? ⟨q, 4, none⟩ = some (.slice a1 1 c1)) := Lib.hid (HC7.out.c.t.cell 4 (by decide))
      refine oz_tk (some 29) (.pointer (some ⟨q, 0, none⟩)) rfl rfl (by go_simp) (fun _ _ => by simp [execOp, go_sem]) ?_
      simp only [Act.put, pS]
      refine oz_tk (some 30) (.pointer (some ⟨q, 0, none⟩)) rfl rfl (by go_simp) (fun _ _ => by simp [execOp, go_sem]) ?_
      simp only [Act.put, pS]
      refine oz_tk (some 31) (.pointer (some ⟨q, 0, none⟩)) rfl rfl (by go_simp) (fun _ _ => by simp [execOp, go_sem]) ?_
      simp only [Act.put, pS]
      refine oz_tk (some 32) (.pointer (some ⟨q, 6, none⟩)) rfl rfl (by go_simp) (fun _ _ => by simp [execOp, go_sem]) ?_
      simp only [Act.put, pS]
      refine oz_ld (some 33) 65 (.tmp 32) (.pointer (some ⟨q, 6, none⟩)) (.slice none 0 0) rfl rfl (by go_simp) rfl rfl (fun y hy => by have h := hy.cell id K6.out; simp [Instr.loadAt, go_sem, h, Tryz.underlying65]) ?_
      simp only [Act.put, pS]
      refine oz_tk (some 34) (.pointer (some ⟨q, 0, none⟩)) rfl rfl (by go_simp) (fun _ _ => by simp [execOp, go_sem]) ?_
      simp only [Act.put, pS]
      refine oz_tk (some 35) (.pointer (some ⟨q, 0, none⟩)) rfl rfl (by go_simp) (fun _ _ => by simp [execOp, go_sem]) ?_
      simp only [Act.put, pS]
      refine oz_tk (some 36) (.pointer (some ⟨q, 4, none⟩)) rfl rfl (by go_simp) (fun _ _ => by simp [execOp, go_sem]) ?_
      simp only [Act.put, pS]
      refine oz_ld (some 37) 22 (.tmp 36) (.pointer (some ⟨q, 4, none⟩)) (.slice a1 1 c1) rfl rfl (by go_simp) rfl rfl (fun y hy => by have h := hy.cell id K4.out; simp [Instr.loadAt, go_sem, h, Tryz.underlying22]) ?_
      simp only [Act.put, pS]
      refine oz_tk (some 38) (.int .i64 1) rfl rfl (by go_simp) (fun _ _ => by simp [execOp, go_sem]) ?_
      simp only [Act.put, pS]
      refine oz_f rfl (by go_simp) fun K hK => ?_
      refine wp_build1l 65 (.tmp 38) rfl (.int .i64 1) (.slice (some ⟨y7.heap.size, 0, none⟩) 1 1) rfl (y7.alloc (.cells #[.int .i64 1] 3)) (buildI 1 y7) ?_
      have HA : Hid (Kept (fun _ => False) y7 (y7.alloc (.cells #[.int .i64 1] 3)) ∧ (y7.alloc (.cells #[.int .i64 1] 3)).heap.size = y7.heap.size + 1) := Lib.hid ⟨(Kept.refl _ _).alloc _, by simp⟩
      refine hK _ _ HA.out.1 ?_
      clear hK K
      simp only [Act.put, pS]
      refine oz_f rfl (by go_simp) fun K hK => ?_
      refine wp_append_any (.tmp 33) (.tmp 39) 65 rfl 0 3 i0 (.int .i64 0) 1 8 undIs HI.out (by simp [Value.cells]) (by decide) (.slice none 0 0) 0 [] rfl (row_none _ _ _ _) (some ⟨y7.heap.size, 0, none⟩) 1 1 [.int .i64 1] rfl (.inr ⟨_, rfl, rfl, one_at rfl _ _⟩) (by simp [Value.oneCell']) (by decide) (by decide) (Nat.zero_le _) ?_
      intro S0 y8 hown hgr hat
      obtain ⟨va6, vc6, rfl⟩ : ∃ a c, S0 = .slice a 1 c := row_slice hown
      have hk : Kept (fun _ => False) y7 y8 := HA.out.1.trans (T := fun _ => False) ⟨hgr.os, hgr.tape, hgr.output, hgr.size, fun k hk hn => hgr.block k hk (fun e => by simp [Value.ownBlock] at e)⟩ fun _ _ h => h
      have HKA := Lib.hid hk
      have HO : Hid (y8.ownsRow 0 3 1 (Value.slice va6 1 vc6) 1 [.int .i64 1] ∧ (∀ k, (Value.slice va6 1 vc6).ownBlock = some k → y7.heap.size ≤ k)) := Lib.hid ⟨by simpa using hown, fun k e => by
        rcases hat k e with e | e
        · simp [Value.ownBlock] at e
        · have := HA.out.2; omega⟩
      clear hown hgr hat hk HA
      refine hK _ _ HKA.out ?_
      clear hK K
      simp only [Act.put, pS]
      refine oz_f rfl (by go_simp) fun K hK => ?_
      go_simp
      refine hK _ _ HKA.out ?_
      clear hK K
      refine oz_f rfl (by go_simp) fun K hK => ?_
      go_simp
      refine hK _ _ HKA.out ?_
      clear hK K
      have HCA := Lib.hid (HC7.out.next HKA.out)
      have HMA := Lib.hid (map_next HM7.out HKA.out)
      have kd := HCA.out.c.t.cell 6 (by decide)
      have fd := IsTab.fz HCA.out.c.t 6
      refine oz_z rfl (by go_simp) fun K hK => ?_
      go_simp
      refine hK _ _ ?_
      clear hK K kd fd
      refine oz_done (NoPanic.normal ?_)
      have HCB := Lib.hid (HCA.out.set 6 (by decide) (Value.slice va6 1 vc6))
      have HMB := Lib.hid (map_set (i := 6) (v := (Value.slice va6 1 vc6)) HMA.out HCA.out.c.t)
      have HKB : Hid (Kept (fun k => k = q) y7 (y8.setCell ⟨q, 6, none⟩ (Value.slice va6 1 vc6))) := Lib.hid ((HKA.out.mono (T := fun k => k = q) fun _ _ h => h.elim).setCell (p := ⟨q, 6, none⟩) (.inl rfl) _)
      have HOB : Hid ((y8.setCell ⟨q, 6, none⟩ (Value.slice va6 1 vc6)).ownsRow 0 3 1 (Value.slice va6 1 vc6) 1 [.int .i64 1] ∧ ¬ (Value.slice va6 1 vc6).ownBlock = some q) := Lib.hid (by
        have hq : ¬ (Value.slice va6 1 vc6).ownBlock = some q := fun e => by have := HO.out.2 q e; have := HC7.out.c.t.lt; omega
        exact ⟨((Kept.refl (fun k => k = q) _).setCell (p := ⟨q, 6, none⟩) (.inl rfl) _).row HO.out.1 fun k e hk => hq (by rw [← hk]; exact e), hq⟩)
      clear HCA HMA HKA HO
      generalize y8.setCell ⟨q, 6, none⟩ (Value.slice va6 1 vc6) = y9 at *
      have HB9 := Lib.hid (Bx.kept HB7.out HKB.out (by have := HLT.out; omega))
      have HS9 := Lib.hid (HS7.out.kept HKB.out HQ.out)
      have HFL9 := Lib.hid (loadF (o := 0) HB9.out.c0 HB9.out.c1 HB9.out.c2)
      have HE := Lib.hid (enter_walk y9 q _ 0 0 aL 1 cL HCB.out.c.t rfl)
      clear HC7 HM7 HB7 HS7 HKB
      go_upto_region 9 with (first
        | ((with_reducible refine wpList_loadE (P := Tryz.prog) (w := y9) (ty := 52) (x := .tmp 7) (p := .pointer (some ⟨bf, 0, none⟩)) (v := .agg #[.int .i64 0, .int .i64 0, .slice aL 1 cL]) ?_ ?_ ?_ HFL9.out ?_); (· exact rfl); (· exact rfl); (· exact rfl))
        | (go_at_call 27; (with_reducible refine HE.out.mono ?_); rintro e y10 ⟨he, hk⟩; obtain rfl : e = _ := he; have HC10 := Lib.hid (HCB.out.next hk); have HM10 := Lib.hid (map_next HMB.out hk); have HB10 := Lib.hid (Bx.kept HB9.out hk id); have HS10 := Lib.hid (HS9.out.kept hk fun _ _ => id); clear hk HE))
      clear HCB HMB HB9 HS9 HFL9
      have k2 := HB10.out.c2
      have HE := Lib.hid (list_walk7 y10 q _ 1 _ _ _ HC10.out.c (by decide) HS10.out)
      go_upto_region 10 with (go_at_call 28; (with_reducible refine HE.out.mono ?_); rintro e y11 ⟨he, V2, h2⟩; obtain rfl : e = _ := he; have H2 := Lib.hid h2; clear HE h2)
      clear k2
      have HC11 : Hid (Cb w y11 q (updv (updv (cf (.slice (some ⟨b, o, none⟩) 1 pc) (.int .i64 l0) (.slice fa fn fc) (.int .i64 l2) bm) 4 V2) 6 (.slice va6 1 vc6)) 3 _) := Lib.hid ((HC10.out.em H2.out).same fun i _ => by unfold updv; by_cases e : i = 4 <;> by_cases e6 : i = 6 <;> simp [e, e6])
      have HM11 := Lib.hid (map_em HM10.out HC10.out.c H2.out)
      have HB11 := Lib.hid (Bx.kept HB10.out H2.out.kp (by
        rintro (e | e)
        · have := HLT.out; omega
        · have := HLT.out.2.2 bf e; omega))
      have HS11 := Lib.hid (HS10.out.kept H2.out.kp (by
        intro k hk
        rintro (e | e)
        · exact HQ.out k hk e
        · have := HC10.out.o0 k e; have := HQ0.out; omega))
      clear HC10 HM10 HB10 HS10 H2
      have k2 := HB11.out.c2
      have HE := Lib.hid (leaves_walk7 y11 _ _ HS11.out)
      go_upto_region 12 with (go_at_call 29; (with_reducible refine HE.out.mono ?_); rintro e y12 ⟨he, hk⟩; obtain rfl : e = _ := he; have HC12 := Lib.hid (HC11.out.next hk); have HM12 := Lib.hid (map_next HM11.out hk); have HB12 := Lib.hid (Bx.kept HB11.out hk id); clear hk HE)
      clear k2 HC11 HM11 HB11 HS11 HOB
      have HC13 := Lib.hid (HC12.out.next (kept_d y12))
      have HM13 := Lib.hid (map_next HM12.out (kept_d y12))
      have HB13 := Lib.hid (Bx.kept HB12.out (kept_d y12) id)
      have HW1 : Hid (IntKind.i64.wrap 1 = 1) := Lib.hid (by decide)
      clear HC12 HM12 HB12
      refine wp_region_oz (fun y : World => Kept (fun _ => False) y12.drew y) 17 (.take 0 (.take 1 (.take 2 (.take 3 (.take 4 (.take 5 (.take 6 (.take 7 (.take 8 (.take 9 (.take 10 (.take 11 (.take 12 (.one 13 (.one 14 (.one 15 (.one 16 (.one 17 .done)))))))))))))))))) (by kernel_rfl) (by kernel_rfl) (Kept.refl _ _) ?_
      generalize y12.drew = y13 at *
      have K9 : Hid (y13.cell? ⟨q, 9, none⟩ = some (.slice none 0 0)) := Lib.hid (HC13.out.c.t.cell 9 (by decide))
      have K12 : Hid (y13.cell? ⟨q, 12, none⟩ = some (.int .i64 0)) := Lib.hid (HC13.out.c.t.cell 12 (by decide))
      refine oz_tk (some 56) (.pointer (some ⟨q, 0, none⟩)) rfl rfl (by go_simp) (fun _ _ => by simp [execOp, go_sem]) ?_
      simp only [Act.put, pS]
      refine oz_tk (some 57) (.pointer (some ⟨q, 0, none⟩)) rfl rfl (by go_simp) (fun _ _ => by simp [execOp, go_sem]) ?_
      simp only [Act.put, pS]
      refine oz_tk (some 58) (.pointer (some ⟨q, 0, none⟩)) rfl rfl (by go_simp) (fun _ _ => by simp [execOp, go_sem]) ?_
      simp only [Act.put, pS]
      refine oz_tk (some 59) (.pointer (some ⟨q, 9, none⟩)) rfl rfl (by go_simp) (fun _ _ => by simp [execOp, go_sem]) ?_
      simp only [Act.put, pS]
      refine oz_ld (some 60) 65 (.tmp 59) (.pointer (some ⟨q, 9, none⟩)) (.slice none 0 0) rfl rfl (by go_simp) rfl rfl (fun y hy => by have h := hy.cell id K9.out; simp [Instr.loadAt, go_sem, h, Tryz.underlying65]) ?_
      simp only [Act.put, pS]
      refine oz_tk (some 61) (.pointer (some ⟨bf, 1, none⟩)) rfl rfl (by go_simp) (fun _ _ => by simp [execOp, go_sem]) ?_
      simp only [Act.put, pS]
      refine oz_ld (some 62) 3 (.tmp 61) (.pointer (some ⟨bf, 1, none⟩)) (.int .i64 0) rfl rfl (by go_simp) rfl rfl (fun y hy => by have h := hy.cell id HB13.out.c1; simp [Instr.loadAt, go_sem, h, Tryz.underlying3]) ?_
      simp only [Act.put, pS]
      refine oz_tk (some 63) (.int .i64 1) rfl rfl (by go_simp) (fun _ y => by have := HW1.out; simp [execOp, go_sem, this]) ?_
      simp only [Act.put, pS]
      refine oz_tk (some 64) (.pointer (some ⟨q, 0, none⟩)) rfl rfl (by go_simp) (fun _ _ => by simp [execOp, go_sem]) ?_
      simp only [Act.put, pS]
      refine oz_tk (some 65) (.pointer (some ⟨q, 0, none⟩)) rfl rfl (by go_simp) (fun _ _ => by simp [execOp, go_sem]) ?_
      simp only [Act.put, pS]
      refine oz_tk (some 66) (.pointer (some ⟨q, 12, none⟩)) rfl rfl (by go_simp) (fun _ _ => by simp [execOp, go_sem]) ?_
      simp only [Act.put, pS]
      refine oz_ld (some 67) 3 (.tmp 66) (.pointer (some ⟨q, 12, none⟩)) (.int .i64 0) rfl rfl (by go_simp) rfl rfl (fun y hy => by have h := hy.cell id K12.out; simp [Instr.loadAt, go_sem, h, Tryz.underlying3]) ?_
      simp only [Act.put, pS]
      refine oz_tk (some 68) (.int .i64 1) rfl rfl (by go_simp) (fun _ y => by have := HW1.out; simp [execOp, go_sem, this]) ?_
      simp only [Act.put, pS]
      refine oz_f rfl (by go_simp) fun K hK => ?_
      refine wp_build1l 65 (.tmp 68) rfl (.int .i64 1) (.slice (some ⟨y13.heap.size, 0, none⟩) 1 1) rfl (y13.alloc (.cells #[.int .i64 1] 3)) (buildI 1 y13) ?_
      have HA : Hid (Kept (fun _ => False) y13 (y13.alloc (.cells #[.int .i64 1] 3)) ∧ (y13.alloc (.cells #[.int .i64 1] 3)).heap.size = y13.heap.size + 1) := Lib.hid ⟨(Kept.refl _ _).alloc _, by simp⟩
      refine hK _ _ HA.out.1 ?_
      clear hK K
      simp only [Act.put, pS]
      refine oz_f rfl (by go_simp) fun K hK => ?_
      refine wp_append_any (.tmp 60) (.tmp 69) 65 rfl 0 3 i0 (.int .i64 0) 1 8 undIs HI.out (by simp [Value.cells]) (by decide) (.slice none 0 0) 0 [] rfl (row_none _ _ _ _) (some ⟨y13.heap.size, 0, none⟩) 1 1 [.int .i64 1] rfl (.inr ⟨_, rfl, rfl, one_at rfl _ _⟩) (by simp [Value.oneCell']) (by decide) (by decide) (Nat.zero_le _) ?_
      intro S0 y14 hown hgr hat
      obtain ⟨va9, vc9, rfl⟩ : ∃ a c, S0 = .slice a 1 c := row_slice hown
      have hk : Kept (fun _ => False) y13 y14 := HA.out.1.trans (T := fun _ => False) ⟨hgr.os, hgr.tape, hgr.output, hgr.size, fun k hk hn => hgr.block k hk (fun e => by simp [Value.ownBlock] at e)⟩ fun _ _ h => h
      have HKA := Lib.hid hk
      have HO : Hid (y14.ownsRow 0 3 1 (Value.slice va9 1 vc9) 1 [.int .i64 1] ∧ (∀ k, (Value.slice va9 1 vc9).ownBlock = some k → y13.heap.size ≤ k)) := Lib.hid ⟨by simpa using hown, fun k e => by
        rcases hat k e with e | e
        · simp [Value.ownBlock] at e
        · have := HA.out.2; omega⟩
      clear hown hgr hat hk HA
      refine hK _ _ HKA.out ?_
      clear hK K
      simp only [Act.put, pS]
      refine oz_f rfl (by go_simp) fun K hK => ?_
      go_simp
      refine hK _ _ HKA.out ?_
      clear hK K
      refine oz_f rfl (by go_simp) fun K hK => ?_
      go_simp
      refine hK _ _ HKA.out ?_
      clear hK K
      have HCA := Lib.hid (HC13.out.next HKA.out)
      have HMA := Lib.hid (map_next HM13.out HKA.out)
      have kd := HCA.out.c.t.cell 9 (by decide)
      have fd := IsTab.fz HCA.out.c.t 9
      refine oz_z rfl (by go_simp) fun K hK => ?_
      go_simp
      refine hK _ _ ?_
      clear hK K kd fd
      refine oz_done (NoPanic.normal ?_)
      have HCB := Lib.hid (HCA.out.set 9 (by decide) (Value.slice va9 1 vc9))
      have HMB := Lib.hid (map_set (i := 9) (v := (Value.slice va9 1 vc9)) HMA.out HCA.out.c.t)
      have HKB : Hid (Kept (fun k => k = q) y13 (y14.setCell ⟨q, 9, none⟩ (Value.slice va9 1 vc9))) := Lib.hid ((HKA.out.mono (T := fun k => k = q) fun _ _ h => h.elim).setCell (p := ⟨q, 9, none⟩) (.inl rfl) _)
      have HOB : Hid ((y14.setCell ⟨q, 9, none⟩ (Value.slice va9 1 vc9)).ownsRow 0 3 1 (Value.slice va9 1 vc9) 1 [.int .i64 1] ∧ ¬ (Value.slice va9 1 vc9).ownBlock = some q) := Lib.hid (by
        have hq : ¬ (Value.slice va9 1 vc9).ownBlock = some q := fun e => by have := HO.out.2 q e; have := HC13.out.c.t.lt; omega
        exact ⟨((Kept.refl (fun k => k = q) _).setCell (p := ⟨q, 9, none⟩) (.inl rfl) _).row HO.out.1 fun k e hk => hq (by rw [← hk]; exact e), hq⟩)
      clear HCA HMA HKA HO
      generalize y14.setCell ⟨q, 9, none⟩ (Value.slice va9 1 vc9) = y15 at *
      clear HC13 HM13 HB13 K9 K12 K6 K4 HS HLT HBF
      go_wp2_with (fail)
      go_roundw
      case rel => exact .inr ⟨rfl, Lib.hid ⟨_, _, _, HCB.out, HOB.out.1, HMB.out, HOB.out.2⟩⟩
      case measure => simp [intOf, wrap64]
    · obtain ⟨V, S, Z, h1, h2, h3, h4⟩ := hp.out
      have HH : Hid (_ ∧ _ ∧ _ ∧ _) := Lib.hid ⟨h1, h2, h3, h4⟩
      clear h1 h2 h3 h4 hp HM4 HC4
      go_wp2_with (fail)
      exact bodyPost_ret (v := .pointer (some ⟨q, 0, none⟩)) (by simp [results, Tryz.results16, go_sem]) rfl ⟨q, V, S, Z, bm, rfl, HH.out⟩
end Lo
end Go.Proofs.YtbenjgncbpafbaaGreatDoor
