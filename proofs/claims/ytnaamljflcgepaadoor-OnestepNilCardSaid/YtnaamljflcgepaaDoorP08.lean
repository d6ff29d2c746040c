/- Merged of Mb. Own work. -/
import Derived.Test.YtnaamljflcgepaaDoorP06
namespace Go.Proofs.YtnaamljflcgepaaDoor
open Go.RowKit
set_option linter.unusedVariables false
set_option linter.unusedSimpArgs false
namespace Mk
open Kc
/-- A block that begins with N digests. -/
def Lv (w : World) (q T N : Nat) (f : Nat → Hx) : Prop := ∃ m g, IsTab w q T m g ∧ 32 * N ≤ m ∧ ∀ k j, k < N → j < 32 → g (32 * k + j) = bv (f k j)
theorem Lv.at5 {w : World} {q T N : Nat} {f : Nat → Hx} (h : Lv w q T N f) : At5 w q 0 N f := fun k j hk hj => by
  obtain ⟨m, g, h1, h2, h3⟩ := h
  rw [show 0 + 32 * k + j = 32 * k + j from by omega, h1.cell _ (by omega), h3 k j hk hj]
theorem Lv.below {w w' : World} {q T N : Nat} {f : Nat → Hx} (h : Lv w q T N f) (hb : Below w.heap.size w w') : Lv w' q T N f := by
  obtain ⟨m, g, h1, h2, h3⟩ := h
  exact ⟨m, g, h1.below hb, h2, h3⟩
theorem Lv.there {w : World} {q T N : Nat} {f : Nat → Hx} (h : Lv w q T N f) {k : Nat} (hk : k < N) {p n : Nat} (hp : p = 32 * k) (hn : n = 32) : w.there q p n := by
  obtain ⟨m, g, h1, h2, h3⟩ := h
  subst hp hn
  exact h1.thereAt (32 * k) 32 (by omega)
theorem Lv.set {w : World} {q T N : Nat} {f : Nat → Hx} (h : Lv w q T N f) (k : Nat) (x : Hx) {p : Nat} (hp : p = 32 * k) :
    Lv (w.setCells q p (tab 32 fun i => bv (x i)).toList) q T N fun i => if i = k then x else f i := by
  obtain ⟨m, g, h1, h2, h3⟩ := h
  subst hp
  refine ⟨m, _, IsTab.setCells ((List.range 32).map fun i => bv (x i)) (32 * k) _ _ h1, h2, fun i j hi hj => ?_⟩
  simp only [List.length_map, List.length_range]
  by_cases e : i = k
  · subst e
    rw [if_pos (by omega), if_pos rfl, show 32 * i + j - 32 * i = j from by omega]
    simp [hj]
  · rw [if_neg (by omega), if_neg e]; exact h3 i j hi hj
theorem Lv.keep {w : World} {q T N p o : Nat} {vs : List Value} {f : Nat → Hx} (h : Lv w q T N f) (hn : q ≠ p) : Lv (w.setCells p o vs) q T N f := by
  obtain ⟨m, g, h1, h2, h3⟩ := h
  exact ⟨m, g, IsTab.cellsOther (w := w) hn _ _ _ h1, h2, h3⟩
theorem Lv.rowOther {w : World} {q T N p : Nat} {cs : Array Value} {f : Nat → Hx} (h : Lv w q T N f) (hn : q ≠ p) : Lv (w.setRow p cs) q T N f := by
  obtain ⟨m, g, h1, h2, h3⟩ := h
  exact ⟨m, g, h1.rowOther hn, h2, h3⟩
theorem Lv.cong {w : World} {q T N : Nat} {f g : Nat → Hx} (h : Lv w q T N f) (e : ∀ k, k < N → f k = g k) : Lv w q T N g := by
  obtain ⟨m, c, h1, h2, h3⟩ := h
  exact ⟨m, c, h1, h2, fun k j hk hj => by rw [← e k hk]; exact h3 k j hk hj⟩
theorem Lv.less {w : World} {q T N M : Nat} {f : Nat → Hx} (h : Lv w q T N f) (hM : M ≤ N) : Lv w q T M f := by
  obtain ⟨m, c, h1, h2, h3⟩ := h
  exact ⟨m, c, h1, by omega, fun k j hk hj => h3 k j (by omega) hj⟩
theorem Lv.lt {w : World} {q T N : Nat} {f : Nat → Hx} (h : Lv w q T N f) : q < w.heap.size := by obtain ⟨m, c, h1, _⟩ := h; exact h1.lt
/-- A level behind k rounds. -/
def half (n : Nat) (f : Nat → Hx) (z : Hx) (k : Nat) : Nat → Hx := fun m => if m < k then pr (if 2 * m < n then f (2 * m) else z) (if 2 * m + 1 < n then f (2 * m + 1) else z) else f m
structure Ab (W : World) (q T n q4 q5 : Nat) (f : Nat → Hx) (z z' : Hx) (y : World) : Prop where
  lv : Lv y q T n f
  s4 : IsTab y q4 31 32 fun i => bv (z i)
  s5 : IsTab y q5 31 32 fun i => bv (z' i)
  kept : Kept (· = q) W y
  n4 : q4 ≠ q
  n5 : q5 ≠ q
  g4 : W.heap.size ≤ q4
  g5 : W.heap.size ≤ q5
theorem Ab.next {W y y' : World} {q T n q4 q5 : Nat} {f : Nat → Hx} {z z' : Hx} (h : Ab W q T n q4 q5 f z z' y) (hb : Below y.heap.size y y') : Ab W q T n q4 q5 f z z' y' :=
  ⟨h.lv.below hb, h.s4.below hb, h.s5.below hb, h.kept.trans (Kept.ofBelow (S := (· = q)) hb) (fun _ _ h => h), h.n4, h.n5, h.g4, h.g5⟩
theorem Ab.drew {W y : World} {q T n q4 q5 : Nat} {f : Nat → Hx} {z z' : Hx} (h : Ab W q T n q4 q5 f z z' y) : Ab W q T n q4 q5 f z z' y.drew :=
  ⟨h.lv, h.s4, h.s5, h.kept.drew, h.n4, h.n5, h.g4, h.g5⟩
theorem Ab.set {W y : World} {q T n q4 q5 : Nat} {f : Nat → Hx} {z z' : Hx} (h : Ab W q T n q4 q5 f z z' y) (k : Nat) (x : Hx) {p : Nat} (hp : p = 32 * k) : Ab W q T n q4 q5 (fun i => if i = k then x else f i) z z' (y.setCells q p (tab 32 fun i => bv (x i)).toList) :=
  ⟨h.lv.set k x hp, IsTab.cellsOther (w := y) h.n4 _ _ _ h.s4, IsTab.cellsOther (w := y) h.n5 _ _ _ h.s5, keptS_setCells (S := (· = q)) (q := q) rfl _ _ _ h.kept, h.n4, h.n5, h.g4, h.g5⟩
theorem load32h {y : World} {q : Nat} {x : Hx} (h : IsTab y q 31 32 fun i => bv (x i)) : (Instr.loadAt 31 (.pointer (some ⟨q, 0, none⟩))).run Tryd.prog y = .ok (dv x) y :=
  loadH (at5_of (n := 1) (f := fun _ => x) (m := 32) (h.cong fun i hi => by unfold hc; rw [show i % 32 = i from by omega]) (by omega)) (k := 0) (by omega) rfl
set_option maxHeartbeats 16000000 in
set_option maxRecDepth 100000 in
theorem above_walk (q T n c N : Nat) (hN2 : N = (n + 1) / 2) (f : Nat → Hx) (z : Hx) (w : World) (hl : Lv w q T n f) (h0 : 0 < n) (hn : n ≤ c) (hc : n ≤ 65536) (hcb : c ≤ 9223372036854775807) (ht : Laid.KTab w) (hq : 0 ≠ q) :
    Calls Tryd.prog 57 #[.slice (some ⟨q, 0, none⟩) n c, dv z, dv (pr z z)] w fun e w' => e = .returned (.slice (some ⟨q, 0, none⟩) N c) ∧ Lv w' q T n (half n f z N) ∧ Kept (· = q) w w' := by
  have HL := Lib.hid hl
  have HT := Lib.hid ht
  clear hl ht
  have hN : (n : Int) ≤ 65536 := by omega
  have hN0 : (0 : Int) < n := by omega
  have HCB := Lib.hid hcb
  clear hcb
  have z2 := zeroHash
  generalize hz : (tab 32 fun _ => bv 0#8) = zh at *
  have HZ := Lib.hid hz
  clear hz
  unfold dv
  go_enter Tryd.func57, Tryd.ntmps57
  go_upto_region 2 with (fail)
  have H1 : Hid (Ab w q T n w.heap.size (w.heap.size + 1) (half n f z 0) z (pr z z) ((w.alloc (.cells (tab 32 fun i => bv (z i)) 31)).alloc (.cells (tab 32 fun i => bv (pr z z i)) 31))) := by
    have e1 : (w.alloc (.cells (tab 32 fun i => bv (z i)) 31)).heap.size = w.heap.size + 1 := by simp
    have hlt := HL.out.lt
    have hb : Below w.heap.size w ((w.alloc (.cells (tab 32 fun i => bv (z i)) 31)).alloc (.cells (tab 32 fun i => bv (pr z z i)) 31)) := ((Below.refl _ _).alloc (Nat.le_refl _) _).alloc (by simp) _
    refine Lib.hid ⟨(HL.out.below hb).cong fun k hk => by unfold half; rw [if_neg (by omega)], (IsTab.new w _ 32 _).alloc _, ?_, Kept.ofBelow hb, by omega, by omega, by omega, by omega⟩
    have := IsTab.new (w.alloc (.cells (tab 32 fun i => bv (z i)) 31)) 31 32 fun i => bv (pr z z i)
    rw [e1] at this; exact this
  generalize (w.alloc (.cells (tab 32 fun i => bv (z i)) 31)).alloc (.cells (tab 32 fun i => bv (pr z z i)) 31) = y0 at *
  generalize w.heap.size + 1 = q5 at *
  generalize hq4 : w.heap.size = q4 at *
  have HQ4 := Lib.hid hq4
  clear hq4
  have hNI : ((n : Int) + 1) / 2 = (N : Int) := by omega
  rw [hNI]
  have HN2 := Lib.hid hN2
  clear hNI hN2
  have hNb : (N : Int) ≤ 65536 := by have := HN2.out; omega
  go_wp2_with fail
  go_loopw [16] (fun t y => ∃ k : Nat, k ≤ N ∧ t = .int .i64 k ∧ Hid (Ab w q T n q4 q5 (half n f z k) z (pr z z) y)) (fun t _ => N - (intOf t).toNat)
  case atStart => exact ⟨0, Nat.zero_le _, rfl, H1⟩
  case round =>
    obtain ⟨k, hk, rfl, hp⟩ := hrel
    clear H1
    by_cases hlt : (k : Int) < (N : Int)
    · have hkn : 2 * k < n := by have := HN2.out; omega
      go_upto_region 5 with (fail)
      have hw2 : IntKind.i64.wrap (2 * (k : Int)) = 2 * (k : Int) := IntWalk.i64_in _ (by omega)
      have hw3 : IntKind.i64.wrap (2 * (k : Int) + 1) = 2 * (k : Int) + 1 := IntWalk.i64_in _ (by omega)
      have hi1 : (0 : Int) ≤ 2 * (k : Int) ∧ 2 * (k : Int) < (n : Int) := by omega
      have hi2 : (2 * (k : Int)).toNat = 2 * k := by omega
      have HI := Lib.hid (And.intro hw2 (And.intro hw3 (And.intro hi1 hi2)))
      clear hw2 hw3 hi1 hi2
      have hfr : ∃ fr : Value → Value → Act, fr = fun x9 x10 => { tmps := ((Value.slice (some ⟨q, 0, none⟩) n c) :: (Value.agg (tab 32 fun i => bv (z i))) :: (Value.agg (tab 32 fun i => bv (pr z z i))) :: undef :: (Value.pointer (some ⟨q4, 0, none⟩)) :: (Value.pointer (some ⟨q5, 0, none⟩)) :: (Value.slice none 0 0) :: (Value.int .i64 N) :: (Value.int .i64 k) :: x9 :: x10 :: (Value.slice (some ⟨q, 0, none⟩) n c) :: (Value.int .i64 n) :: (Value.int .i64 ((n : Int) + 1)) :: (Value.int .i64 N) :: (Value.int .i64 N) :: (Value.int .i64 k) :: (Value.bool true) :: (Value.int .i64 k) :: (Value.slice (some ⟨q, 0, none⟩) n c) :: (Value.int .i64 k) :: (Value.int .i64 (2 * (k : Int))) :: (Value.pointer (some ⟨q, 2 * k * 32, none⟩)) :: (dv (half n f z k (2 * k))) :: (Value.slice (some ⟨q, 0, none⟩) n c) :: (Value.int .i64 k) :: (Value.int .i64 (2 * (k : Int))) :: (Value.int .i64 (2 * (k : Int) + 1)) :: (dv z) :: (dv (if 2 * k + 1 < n then half n f z k (2 * k + 1) else z)) :: u30 :: u31 :: u32 :: u33 :: u34 :: u35 :: u36 :: u37 :: u38 :: u39 :: u40 :: u41 :: u42 :: u43 :: u44 :: u45 :: u46 :: u47 :: u48 :: undef :: undef :: undef :: []).toArray, defers := [] } := ⟨_, rfl⟩
      obtain ⟨fr, hfr⟩ := hfr
      have HFR := Lib.hid hfr
      clear hfr
      have hl1 : ∀ u, Ab w q T n q4 q5 (half n f z k) z (pr z z) u → (Instr.loadAt 31 (.pointer (some ⟨q, 2 * k * 32, none⟩))).run Tryd.prog u = .ok (dv (half n f z k (2 * k))) u := fun u hu => loadH hu.lv.at5 hkn (by omega)
      have hl2 : ∀ u, Ab w q T n q4 q5 (half n f z k) z (pr z z) u → (Instr.loadAt 31 (.pointer (some ⟨q4, 0, none⟩))).run Tryd.prog u = .ok (dv z) u := fun u hu => load32h hu.s4
      have hif : (if 2 * k + 1 < n then half n f z k (2 * k + 1) else z) = (if 2 * k + 1 < n then half n f z k (2 * k + 1) else z) := rfl
      have HIF := Lib.hid hif
      clear hif
      have LD1 := Lib.hid hl1
      have LD2 := Lib.hid hl2
      clear hl1 hl2
      refine wp_region_float (Ab w q T n q4 q5 (half n f z k) z (pr z z)) [(0, true), (1, true), (2, true), (3, true), (4, true), (5, true), (6, true), (7, true), (8, true), (9, true)] [10, 11, 12] [(13, false), (14, false)]
        (fun a y => ∃ q9 q10 : Nat, a = fr (.pointer (some ⟨q9, 0, none⟩)) (.pointer (some ⟨q10, 0, none⟩)) ∧ IsTab y q9 31 32 (fun _ => bv 0#8) ∧ IsTab y q10 31 32 (fun _ => bv 0#8) ∧ q9 ≠ q10 ∧ wr.heap.size ≤ q9 ∧ wr.heap.size ≤ q10) (by kernel_rfl) (by kernel_rfl) hp.out.drew ?_ ?_
      · refine wpOrdK_tk (some 19) (.slice (some ⟨q, 0, none⟩) n c) rfl rfl (by rfl) (fun _ _ => rfl) ?_
        simp only [Act.put, List.setIfInBounds_toArray, List.set_cons_zero, List.set_cons_succ]
        refine wpOrdK_tk (some 20) (.int .i64 k) rfl rfl (by rfl) (fun _ _ => rfl) ?_
        simp only [Act.put, List.setIfInBounds_toArray, List.set_cons_zero, List.set_cons_succ]
        refine wpOrdK_tk (some 21) (.int .i64 (2 * (k : Int))) rfl rfl (by rfl) (fun _ _ => by have := HI.out.1; simp [execOp, go_sem, this]) ?_
        simp only [Act.put, List.setIfInBounds_toArray, List.set_cons_zero, List.set_cons_succ]
        refine wpOrdK_tk (some 22) (.pointer (some ⟨q, 2 * k * 32, none⟩)) rfl rfl (by rfl) (fun _ _ => by have := HI.out.2; simp [execOp, go_sem, this]) ?_
        simp only [Act.put, List.setIfInBounds_toArray, List.set_cons_zero, List.set_cons_succ]
        refine wpOrdK_ld (some 23) 31 (.tmp 22) (.pointer (some ⟨q, 2 * k * 32, none⟩)) _ rfl rfl (by rfl) rfl rfl LD1.out ?_
        simp only [Act.put, List.setIfInBounds_toArray, List.set_cons_zero, List.set_cons_succ]
        refine wpOrdK_tk (some 24) (.slice (some ⟨q, 0, none⟩) n c) rfl rfl (by rfl) (fun _ _ => rfl) ?_
        simp only [Act.put, List.setIfInBounds_toArray, List.set_cons_zero, List.set_cons_succ]
        refine wpOrdK_tk (some 25) (.int .i64 k) rfl rfl (by rfl) (fun _ _ => rfl) ?_
        simp only [Act.put, List.setIfInBounds_toArray, List.set_cons_zero, List.set_cons_succ]
        refine wpOrdK_tk (some 26) (.int .i64 (2 * (k : Int))) rfl rfl (by rfl) (fun _ _ => by have := HI.out.1; simp [execOp, go_sem, this]) ?_
        simp only [Act.put, List.setIfInBounds_toArray, List.set_cons_zero, List.set_cons_succ]
        refine wpOrdK_tk (some 27) (.int .i64 (2 * (k : Int) + 1)) rfl rfl (by rfl) (fun _ _ => by have := HI.out.2.1; simp [execOp, go_sem, this]) ?_
        simp only [Act.put, List.setIfInBounds_toArray, List.set_cons_zero, List.set_cons_succ]
        refine wpOrdK_ld (some 28) 31 (.tmp 4) (.pointer (some ⟨q4, 0, none⟩)) _ rfl rfl (by rfl) rfl rfl LD2.out ?_
        simp only [Act.put, List.setIfInBounds_toArray, List.set_cons_zero, List.set_cons_succ]
        refine wpOrdK_done ?_
        have S0 := Lib.hid hp.out.drew
        have hu : wr.drew.heap.size = wr.heap.size := rfl
        have HU := Lib.hid hu
        clear hu
        generalize wr.drew = v0 at *
        have LE0 : Hid (wr.heap.size ≤ v0.heap.size) := Lib.hid (by have := HU.out; omega)
        clear HU
        show wpFloat _ _ _ _ _ 3 [10, 11, 12] _ _
        refine wpFloat_all fun x hx => ?_
        have hx2 : x = 10 ∨ x = 11 ∨ x = 12 := by simpa using hx
        clear hx
        rcases hx2 with rfl | rfl | rfl
        · refine wpFloat_one rfl (by rfl) fun J hJ => ?_
          go_simp
          refine (at_any (some ⟨q, 0, none⟩) c n (half n f z k) (2 * k + 1) z _ (.inr ⟨q, 0, rfl, S0.out.lv.at5⟩) hn HCB.out (by have := HN2.out; omega)).mono ?_
          rintro e v1 ⟨rfl, hb⟩
          have S1 := Lib.hid (S0.out.next hb)
          have LE1 : Hid (wr.heap.size ≤ _) := Lib.hid (Nat.le_trans LE0.out hb.size)
          clear hb
          refine hJ _ _ S1.out ?_
          clear hJ J
          try simp only [Act.put, List.setIfInBounds_toArray, List.set_cons_zero, List.set_cons_succ]
          refine wpFloat_all fun x hx => ?_
          have hx2 : x = 11 ∨ x = 12 := by simpa using hx
          clear hx
          rcases hx2 with rfl | rfl
          · refine wpFloat_one rfl (by rfl) fun J hJ => ?_
            go_simp
            have hb : Below v1.heap.size v1 (v1.alloc (.cells zh 31)) := (Below.refl _ _).alloc (Nat.le_refl _) _
            have N11 := Lib.hid (put_new v1 (fun _ => 0#8) zh HZ.out)
            have G11 : Hid (wr.heap.size ≤ v1.heap.size) := Lib.hid (by have := LE1.out; exact this)
            have S2 := Lib.hid (S1.out.next hb)
            have LE2 : Hid (wr.heap.size ≤ _) := Lib.hid (Nat.le_trans LE1.out hb.size)
            clear hb
            refine hJ _ _ S2.out ?_
            clear hJ J
            have LT11 : Hid (v1.heap.size < (v1.alloc (.cells zh 31)).heap.size) := Lib.hid (by simp)
            generalize v1.alloc (.cells zh 31) = v2 at *
            generalize v1.heap.size = q11 at *
            try simp only [Act.put, List.setIfInBounds_toArray, List.set_cons_zero, List.set_cons_succ]
            refine wpFloat_all fun x hx => ?_
            obtain rfl : x = 12 := by simpa using hx
            clear hx
            refine wpFloat_one rfl (by rfl) fun J hJ => ?_
            go_simp
            have hb : Below v2.heap.size v2 (v2.alloc (.cells zh 31)) := (Below.refl _ _).alloc (Nat.le_refl _) _
            have N12 := Lib.hid (put_new v2 (fun _ => 0#8) zh HZ.out)
            have G12 : Hid (wr.heap.size ≤ v2.heap.size) := Lib.hid (by have := LE2.out; exact this)
            have S3 := Lib.hid (S2.out.next hb)
            have LE3 : Hid (wr.heap.size ≤ _) := Lib.hid (Nat.le_trans LE2.out hb.size)
            have M11 := Lib.hid (N11.out.below hb)
            clear N11
            have N11 := M11
            clear M11
            have NE : Hid (q11 ≠ v2.heap.size) := Lib.hid (by have := LT11.out; omega)
            clear hb
            refine hJ _ _ S3.out ?_
            clear hJ J
            have LT12 : Hid (v2.heap.size < (v2.alloc (.cells zh 31)).heap.size) := Lib.hid (by simp)
            generalize v2.alloc (.cells zh 31) = v3 at *
            generalize v2.heap.size = q12 at *
            try simp only [Act.put, List.setIfInBounds_toArray, List.set_cons_zero, List.set_cons_succ]
            refine wpFloat_done ?_
            refine ⟨q11, q12, ?_, N11.out, N12.out, ?_, G11.out, G12.out⟩
            · rw [HFR.out]
            · exact NE.out
          · refine wpFloat_one rfl (by rfl) fun J hJ => ?_
            go_simp
            have hb : Below v1.heap.size v1 (v1.alloc (.cells zh 31)) := (Below.refl _ _).alloc (Nat.le_refl _) _
            have N12 := Lib.hid (put_new v1 (fun _ => 0#8) zh HZ.out)
            have G12 : Hid (wr.heap.size ≤ v1.heap.size) := Lib.hid (by have := LE1.out; exact this)
            have S2 := Lib.hid (S1.out.next hb)
            have LE2 : Hid (wr.heap.size ≤ _) := Lib.hid (Nat.le_trans LE1.out hb.size)
            clear hb
            refine hJ _ _ S2.out ?_
            clear hJ J
            have LT12 : Hid (v1.heap.size < (v1.alloc (.cells zh 31)).heap.size) := Lib.hid (by simp)
            generalize v1.alloc (.cells zh 31) = v2 at *
            generalize v1.heap.size = q12 at *
            try simp only [Act.put, List.setIfInBounds_toArray, List.set_cons_zero, List.set_cons_succ]
            refine wpFloat_all fun x hx => ?_
            obtain rfl : x = 11 := by simpa using hx
            clear hx
            refine wpFloat_one rfl (by rfl) fun J hJ => ?_
            go_simp
            have hb : Below v2.heap.size v2 (v2.alloc (.cells zh 31)) := (Below.refl _ _).alloc (Nat.le_refl _) _
            have N11 := Lib.hid (put_new v2 (fun _ => 0#8) zh HZ.out)
            have G11 : Hid (wr.heap.size ≤ v2.heap.size) := Lib.hid (by have := LE2.out; exact this)
            have S3 := Lib.hid (S2.out.next hb)
            have LE3 : Hid (wr.heap.size ≤ _) := Lib.hid (Nat.le_trans LE2.out hb.size)
            have M12 := Lib.hid (N12.out.below hb)
            clear N12
            have N12 := M12
            clear M12
            have NE : Hid (q12 ≠ v2.heap.size) := Lib.hid (by have := LT12.out; omega)
            clear hb
            refine hJ _ _ S3.out ?_
            clear hJ J
            have LT11 : Hid (v2.heap.size < (v2.alloc (.cells zh 31)).heap.size) := Lib.hid (by simp)
            generalize v2.alloc (.cells zh 31) = v3 at *
            generalize v2.heap.size = q11 at *
            try simp only [Act.put, List.setIfInBounds_toArray, List.set_cons_zero, List.set_cons_succ]
            refine wpFloat_done ?_
            refine ⟨q11, q12, ?_, N11.out, N12.out, ?_, G11.out, G12.out⟩
            · rw [HFR.out]
            · exact fun e => NE.out e.symm
        · refine wpFloat_one rfl (by rfl) fun J hJ => ?_
          go_simp
          have hb : Below v0.heap.size v0 (v0.alloc (.cells zh 31)) := (Below.refl _ _).alloc (Nat.le_refl _) _
          have N11 := Lib.hid (put_new v0 (fun _ => 0#8) zh HZ.out)
          have G11 : Hid (wr.heap.size ≤ v0.heap.size) := Lib.hid (by have := LE0.out; exact this)
          have S1 := Lib.hid (S0.out.next hb)
          have LE1 : Hid (wr.heap.size ≤ _) := Lib.hid (Nat.le_trans LE0.out hb.size)
          clear hb
          refine hJ _ _ S1.out ?_
          clear hJ J
          have LT11 : Hid (v0.heap.size < (v0.alloc (.cells zh 31)).heap.size) := Lib.hid (by simp)
          generalize v0.alloc (.cells zh 31) = v1 at *
          generalize v0.heap.size = q11 at *
          try simp only [Act.put, List.setIfInBounds_toArray, List.set_cons_zero, List.set_cons_succ]
          refine wpFloat_all fun x hx => ?_
          have hx2 : x = 10 ∨ x = 12 := by simpa using hx
          clear hx
          rcases hx2 with rfl | rfl
          · refine wpFloat_one rfl (by rfl) fun J hJ => ?_
            go_simp
            refine (at_any (some ⟨q, 0, none⟩) c n (half n f z k) (2 * k + 1) z _ (.inr ⟨q, 0, rfl, S1.out.lv.at5⟩) hn HCB.out (by have := HN2.out; omega)).mono ?_
            rintro e v2 ⟨rfl, hb⟩
            have S2 := Lib.hid (S1.out.next hb)
            have LE2 : Hid (wr.heap.size ≤ _) := Lib.hid (Nat.le_trans LE1.out hb.size)
            have M11 := Lib.hid (N11.out.below hb)
            clear N11
            have N11 := M11
            clear M11
            clear hb
            refine hJ _ _ S2.out ?_
            clear hJ J
            have LU11 : Hid (q11 < v2.heap.size) := Lib.hid N11.out.lt
            clear LT11
            have LT11 := LU11
            clear LU11
            try simp only [Act.put, List.setIfInBounds_toArray, List.set_cons_zero, List.set_cons_succ]
            refine wpFloat_all fun x hx => ?_
            obtain rfl : x = 12 := by simpa using hx
            clear hx
            refine wpFloat_one rfl (by rfl) fun J hJ => ?_
            go_simp
            have hb : Below v2.heap.size v2 (v2.alloc (.cells zh 31)) := (Below.refl _ _).alloc (Nat.le_refl _) _
            have N12 := Lib.hid (put_new v2 (fun _ => 0#8) zh HZ.out)
            have G12 : Hid (wr.heap.size ≤ v2.heap.size) := Lib.hid (by have := LE2.out; exact this)
            have S3 := Lib.hid (S2.out.next hb)
            have LE3 : Hid (wr.heap.size ≤ _) := Lib.hid (Nat.le_trans LE2.out hb.size)
            have M11 := Lib.hid (N11.out.below hb)
            clear N11
            have N11 := M11
            clear M11
            have NE : Hid (q11 ≠ v2.heap.size) := Lib.hid (by have := LT11.out; omega)
            clear hb
            refine hJ _ _ S3.out ?_
            clear hJ J
            have LT12 : Hid (v2.heap.size < (v2.alloc (.cells zh 31)).heap.size) := Lib.hid (by simp)
            generalize v2.alloc (.cells zh 31) = v3 at *
            generalize v2.heap.size = q12 at *
            try simp only [Act.put, List.setIfInBounds_toArray, List.set_cons_zero, List.set_cons_succ]
            refine wpFloat_done ?_
            refine ⟨q11, q12, ?_, N11.out, N12.out, ?_, G11.out, G12.out⟩
            · rw [HFR.out]
            · exact NE.out
          · refine wpFloat_one rfl (by rfl) fun J hJ => ?_
            go_simp
            have hb : Below v1.heap.size v1 (v1.alloc (.cells zh 31)) := (Below.refl _ _).alloc (Nat.le_refl _) _
            have N12 := Lib.hid (put_new v1 (fun _ => 0#8) zh HZ.out)
            have G12 : Hid (wr.heap.size ≤ v1.heap.size) := Lib.hid (by have := LE1.out; exact this)
            have S2 := Lib.hid (S1.out.next hb)
            have LE2 : Hid (wr.heap.size ≤ _) := Lib.hid (Nat.le_trans LE1.out hb.size)
            have M11 := Lib.hid (N11.out.below hb)
            clear N11
            have N11 := M11
            clear M11
            have NE : Hid (q11 ≠ v1.heap.size) := Lib.hid (by have := LT11.out; omega)
            clear hb
            refine hJ _ _ S2.out ?_
            clear hJ J
            have LT12 : Hid (v1.heap.size < (v1.alloc (.cells zh 31)).heap.size) := Lib.hid (by simp)
            generalize v1.alloc (.cells zh 31) = v2 at *
            generalize v1.heap.size = q12 at *
            try simp only [Act.put, List.setIfInBounds_toArray, List.set_cons_zero, List.set_cons_succ]
            refine wpFloat_all fun x hx => ?_
            obtain rfl : x = 10 := by simpa using hx
            clear hx
            refine wpFloat_one rfl (by rfl) fun J hJ => ?_
            go_simp
            refine (at_any (some ⟨q, 0, none⟩) c n (half n f z k) (2 * k + 1) z _ (.inr ⟨q, 0, rfl, S2.out.lv.at5⟩) hn HCB.out (by have := HN2.out; omega)).mono ?_
            rintro e v3 ⟨rfl, hb⟩
            have S3 := Lib.hid (S2.out.next hb)
            have LE3 : Hid (wr.heap.size ≤ _) := Lib.hid (Nat.le_trans LE2.out hb.size)
            have M11 := Lib.hid (N11.out.below hb)
            clear N11
            have N11 := M11
            clear M11
            have M12 := Lib.hid (N12.out.below hb)
            clear N12
            have N12 := M12
            clear M12
            clear hb
            refine hJ _ _ S3.out ?_
            clear hJ J
            have LU11 : Hid (q11 < v3.heap.size) := Lib.hid N11.out.lt
            clear LT11
            have LT11 := LU11
            clear LU11
            have LU12 : Hid (q12 < v3.heap.size) := Lib.hid N12.out.lt
            clear LT12
            have LT12 := LU12
            clear LU12
            try simp only [Act.put, List.setIfInBounds_toArray, List.set_cons_zero, List.set_cons_succ]
            refine wpFloat_done ?_
            refine ⟨q11, q12, ?_, N11.out, N12.out, ?_, G11.out, G12.out⟩
            · rw [HFR.out]
            · exact NE.out
        · refine wpFloat_one rfl (by rfl) fun J hJ => ?_
          go_simp
          have hb : Below v0.heap.size v0 (v0.alloc (.cells zh 31)) := (Below.refl _ _).alloc (Nat.le_refl _) _
          have N12 := Lib.hid (put_new v0 (fun _ => 0#8) zh HZ.out)
          have G12 : Hid (wr.heap.size ≤ v0.heap.size) := Lib.hid (by have := LE0.out; exact this)
          have S1 := Lib.hid (S0.out.next hb)
          have LE1 : Hid (wr.heap.size ≤ _) := Lib.hid (Nat.le_trans LE0.out hb.size)
          clear hb
          refine hJ _ _ S1.out ?_
          clear hJ J
          have LT12 : Hid (v0.heap.size < (v0.alloc (.cells zh 31)).heap.size) := Lib.hid (by simp)
          generalize v0.alloc (.cells zh 31) = v1 at *
          generalize v0.heap.size = q12 at *
          try simp only [Act.put, List.setIfInBounds_toArray, List.set_cons_zero, List.set_cons_succ]
          refine wpFloat_all fun x hx => ?_
          have hx2 : x = 10 ∨ x = 11 := by simpa using hx
          clear hx
          rcases hx2 with rfl | rfl
          · refine wpFloat_one rfl (by rfl) fun J hJ => ?_
            go_simp
            refine (at_any (some ⟨q, 0, none⟩) c n (half n f z k) (2 * k + 1) z _ (.inr ⟨q, 0, rfl, S1.out.lv.at5⟩) hn HCB.out (by have := HN2.out; omega)).mono ?_
            rintro e v2 ⟨rfl, hb⟩
            have S2 := Lib.hid (S1.out.next hb)
            have LE2 : Hid (wr.heap.size ≤ _) := Lib.hid (Nat.le_trans LE1.out hb.size)
            have M12 := Lib.hid (N12.out.below hb)
            clear N12
            have N12 := M12
            clear M12
            clear hb
            refine hJ _ _ S2.out ?_
            clear hJ J
            have LU12 : Hid (q12 < v2.heap.size) := Lib.hid N12.out.lt
            clear LT12
            have LT12 := LU12
            clear LU12
            try simp only [Act.put, List.setIfInBounds_toArray, List.set_cons_zero, List.set_cons_succ]
            refine wpFloat_all fun x hx => ?_
            obtain rfl : x = 11 := by simpa using hx
            clear hx
            refine wpFloat_one rfl (by rfl) fun J hJ => ?_
            go_simp
            have hb : Below v2.heap.size v2 (v2.alloc (.cells zh 31)) := (Below.refl _ _).alloc (Nat.le_refl _) _
            have N11 := Lib.hid (put_new v2 (fun _ => 0#8) zh HZ.out)
            have G11 : Hid (wr.heap.size ≤ v2.heap.size) := Lib.hid (by have := LE2.out; exact this)
            have S3 := Lib.hid (S2.out.next hb)
            have LE3 : Hid (wr.heap.size ≤ _) := Lib.hid (Nat.le_trans LE2.out hb.size)
            have M12 := Lib.hid (N12.out.below hb)
            clear N12
            have N12 := M12
            clear M12
            have NE : Hid (q12 ≠ v2.heap.size) := Lib.hid (by have := LT12.out; omega)
            clear hb
            refine hJ _ _ S3.out ?_
            clear hJ J
            have LT11 : Hid (v2.heap.size < (v2.alloc (.cells zh 31)).heap.size) := Lib.hid (by simp)
            generalize v2.alloc (.cells zh 31) = v3 at *
            generalize v2.heap.size = q11 at *
            try simp only [Act.put, List.setIfInBounds_toArray, List.set_cons_zero, List.set_cons_succ]
            refine wpFloat_done ?_
            refine ⟨q11, q12, ?_, N11.out, N12.out, ?_, G11.out, G12.out⟩
            · rw [HFR.out]
            · exact fun e => NE.out e.symm
          · refine wpFloat_one rfl (by rfl) fun J hJ => ?_
            go_simp
            have hb : Below v1.heap.size v1 (v1.alloc (.cells zh 31)) := (Below.refl _ _).alloc (Nat.le_refl _) _
            have N11 := Lib.hid (put_new v1 (fun _ => 0#8) zh HZ.out)
            have G11 : Hid (wr.heap.size ≤ v1.heap.size) := Lib.hid (by have := LE1.out; exact this)
            have S2 := Lib.hid (S1.out.next hb)
            have LE2 : Hid (wr.heap.size ≤ _) := Lib.hid (Nat.le_trans LE1.out hb.size)
            have M12 := Lib.hid (N12.out.below hb)
            clear N12
            have N12 := M12
            clear M12
            have NE : Hid (q12 ≠ v1.heap.size) := Lib.hid (by have := LT12.out; omega)
            clear hb
            refine hJ _ _ S2.out ?_
            clear hJ J
            have LT11 : Hid (v1.heap.size < (v1.alloc (.cells zh 31)).heap.size) := Lib.hid (by simp)
            generalize v1.alloc (.cells zh 31) = v2 at *
            generalize v1.heap.size = q11 at *
            try simp only [Act.put, List.setIfInBounds_toArray, List.set_cons_zero, List.set_cons_succ]
            refine wpFloat_all fun x hx => ?_
            obtain rfl : x = 10 := by simpa using hx
            clear hx
            refine wpFloat_one rfl (by rfl) fun J hJ => ?_
            go_simp
            refine (at_any (some ⟨q, 0, none⟩) c n (half n f z k) (2 * k + 1) z _ (.inr ⟨q, 0, rfl, S2.out.lv.at5⟩) hn HCB.out (by have := HN2.out; omega)).mono ?_
            rintro e v3 ⟨rfl, hb⟩
            have S3 := Lib.hid (S2.out.next hb)
            have LE3 : Hid (wr.heap.size ≤ _) := Lib.hid (Nat.le_trans LE2.out hb.size)
            have M12 := Lib.hid (N12.out.below hb)
            clear N12
            have N12 := M12
            clear M12
            have M11 := Lib.hid (N11.out.below hb)
            clear N11
            have N11 := M11
            clear M11
            clear hb
            refine hJ _ _ S3.out ?_
            clear hJ J
            have LU12 : Hid (q12 < v3.heap.size) := Lib.hid N12.out.lt
            clear LT12
            have LT12 := LU12
            clear LU12
            have LU11 : Hid (q11 < v3.heap.size) := Lib.hid N11.out.lt
            clear LT11
            have LT11 := LU11
            clear LU11
            try simp only [Act.put, List.setIfInBounds_toArray, List.set_cons_zero, List.set_cons_succ]
            refine wpFloat_done ?_
            refine ⟨q11, q12, ?_, N11.out, N12.out, ?_, G11.out, G12.out⟩
            · rw [HFR.out]
            · exact fun e => NE.out e.symm
      · rintro a y hS ⟨q9, q10, rfl, t9, t10, hne, g9, g10⟩
        have HSS := Lib.hid (And.intro hS (And.intro t9 (And.intro t10 (And.intro hne (And.intro g9 g10)))))
        clear hS t9 t10 hne g9 g10
        have hlR : (if 2 * k + 1 < n then half n f z k (2 * k + 1) else z) = (if 2 * k + 1 < n then f (2 * k + 1) else z) := by
          split
          · unfold half; rw [if_neg (by omega)]
          · rfl
        have hlL : half n f z k (2 * k) = f (2 * k) := by unfold half; rw [if_neg (by omega)]
        rw [HFR.out, hlR, hlL]
        clear HFR hlR hlL
        obtain ⟨R, hR⟩ : ∃ R, R = (if 2 * k + 1 < n then f (2 * k + 1) else z) := ⟨_, rfl⟩
        rw [← hR]
        have HR := Lib.hid hR
        clear hR
        obtain ⟨L, hL⟩ : ∃ L, L = f (2 * k) := ⟨_, rfl⟩
        rw [← hL]
        have HLL := Lib.hid hL
        clear hL LD1 LD2
        refine wpOrd_f (o := ⟨none, .store 31 (.tmp 9) (.tmp 23), 0, "merkle.go:103", _, none⟩) rfl (by rfl) fun J hJ => ?_
        refine wp_store_row 31 (.tmp 9) (.tmp 23) rfl q9 (tab 32 fun j => bv (L j)) rfl rfl 31 _ HSS.out.2.1 (infH _) (by rw [tab_size, tab_size]) (one_bv _ _) ?_
        have hW : wr.heap.size ≤ q9 ∧ wr.heap.size ≤ q10 ∧ q < wr.heap.size ∧ q4 < wr.heap.size ∧ q5 < wr.heap.size ∧ w.heap.size ≤ wr.heap.size := ⟨HSS.out.2.2.2.2.1, HSS.out.2.2.2.2.2, hp.out.lv.lt, hp.out.s4.lt, hp.out.s5.lt, hp.out.kept.size⟩
        have HW := Lib.hid hW
        clear hW
        have hS1 : Ab w q T n q4 q5 (half n f z k) z (pr z z) (y.setRow q9 (tab 32 fun j => bv (L j))) := by
          have h := HSS.out.1
          have a := HW.out
          exact ⟨h.lv.rowOther (by omega), h.s4.rowOther (by omega), h.s5.rowOther (by omega), kept_setRow h.kept (.inr (by omega)) _, h.n4, h.n5, h.g4, h.g5⟩
        have hT1 : IsTab (y.setRow q9 (tab 32 fun j => bv (L j))) q9 31 32 (fun j => bv (L j)) ∧ IsTab (y.setRow q9 (tab 32 fun j => bv (L j))) q10 31 32 (fun _ => bv 0#8) := ⟨HSS.out.2.1.row, HSS.out.2.2.1.rowOther (fun e => HSS.out.2.2.2.1 e.symm)⟩
        have HS1 := Lib.hid (And.intro hS1 hT1)
        clear hS1 hT1
        refine hJ _ _ HS1.out.1 ?_
        clear hJ J
        simp only [Act.put]
        generalize y.setRow q9 (tab 32 fun j => bv (L j)) = y1 at *
        refine wpOrd_f (o := ⟨none, .store 31 (.tmp 10) (.tmp 29), 0, "merkle.go:103", _, none⟩) rfl (by rfl) fun J hJ => ?_
        refine wp_store_row 31 (.tmp 10) (.tmp 29) rfl q10 (tab 32 fun j => bv (R j)) rfl rfl 31 _ HS1.out.2.2 (infH _) (by rw [tab_size, tab_size]) (one_bv _ _) ?_
        have hS2 : Ab w q T n q4 q5 (half n f z k) z (pr z z) (y1.setRow q10 (tab 32 fun j => bv (R j))) := by
          have h := HS1.out.1
          have a := HW.out
          exact ⟨h.lv.rowOther (by omega), h.s4.rowOther (by omega), h.s5.rowOther (by omega), kept_setRow h.kept (.inr (by omega)) _, h.n4, h.n5, h.g4, h.g5⟩
        have hT2 : IsTab (y1.setRow q10 (tab 32 fun j => bv (R j))) q9 31 32 (fun j => bv (L j)) ∧ IsTab (y1.setRow q10 (tab 32 fun j => bv (R j))) q10 31 32 (fun j => bv (R j)) := ⟨HS1.out.2.1.rowOther HSS.out.2.2.2.1, HS1.out.2.2.row⟩
        have HS2 := Lib.hid (And.intro hS2 hT2)
        clear hS2 hT2
        refine hJ _ _ HS2.out.1 ?_
        clear hJ J
        generalize y1.setRow q10 (tab 32 fun j => bv (R j)) = y2 at *
        clear HSS HS1
        refine wpOrd_done (NoPanic.normal ?_)
        simp only [Act.put]
        have hd9 := load32h HS2.out.2.1
        have hd10 := load32h HS2.out.2.2
        have hd4 := load32h HS2.out.1.s4
        have hd5 := load32h HS2.out.1.s5
        have D9 := Lib.hid hd9
        have D10 := Lib.hid hd10
        have D4 := Lib.hid hd4
        have D5 := Lib.hid hd5
        clear hd9 hd10 hd4 hd5
        have hkN : (k : Int) < (n : Int) := by have := HN2.out; omega
        have eL : ∀ u, (binOp .eql 31 (dv L) (dv z)).run Tryd.prog u = .ok (.bool (same32 L z)) u := fun u => eql32 L z u
        have eG := guardE
        have eR : ∀ u, (binOp .eql 31 (dv R) (dv z)).run Tryd.prog u = .ok (.bool (same32 R z)) u := fun u => eql32 R z u
        have hstep : ∀ x : Hx, x = pr L R → half n f z (k + 1) = fun i => if i = k then x else half n f z k i := by
          intro x hx
          funext i
          unfold half
          by_cases h1 : i = k
          · subst h1
            rw [if_pos (Nat.lt_succ_self _), if_pos rfl, hx, HLL.out, HR.out, if_pos hkn]
          · rw [if_neg h1]
            by_cases h2 : i < k
            · rw [if_pos (by omega), if_pos h2]
            · rw [if_neg (by omega), if_neg h2]
        have HSTEP := Lib.hid hstep
        clear hstep
        have hTH := Lib.hid (HS2.out.1.lv.there (k := k) (p := k * 32) (by omega) (by omega) rfl)
        have HNX := Lib.hid fun x : Hx => HS2.out.1.set k x (p := k * 32) (by omega)
        by_cases hbL : same32 L z = true
        · by_cases hbR : same32 R z = true
          · have hpz : pr z z = pr L R := pr_cong (fun i hi => ((same32_iff _ _).1 hbL i hi).symm) (fun i hi => ((same32_iff _ _).1 hbR i hi).symm)
            have HPZ := Lib.hid hpz
            clear hpz
            go_upto_region 9 with (first
              | ((with_reducible refine wpList_loadE (P := Tryd.prog) (w := y2) (ty := 31) (x := .tmp 9) (p := .pointer (some ⟨q9, 0, none⟩)) (v := dv L) ?_ ?_ ?_ D9.out ?_); (· exact rfl); (· exact rfl); (· exact rfl))
              | ((with_reducible refine wpList_loadE (P := Tryd.prog) (w := y2) (ty := 31) (x := .tmp 4) (p := .pointer (some ⟨q4, 0, none⟩)) (v := dv z) ?_ ?_ ?_ D4.out ?_); (· exact rfl); (· exact rfl); (· exact rfl))
              | ((with_reducible refine wpList_loadE (P := Tryd.prog) (w := y2) (ty := 31) (x := .tmp 5) (p := .pointer (some ⟨q5, 0, none⟩)) (v := dv (pr z z)) ?_ ?_ ?_ D5.out ?_); (· exact rfl); (· exact rfl); (· exact rfl))
              | ((with_reducible refine wpList_loadG (P := Tryd.prog) (w := y2) (ty := 31) (x := .tmp 10) (p := .pointer (some ⟨q10, 0, none⟩)) (v := dv R) ?_ ?_ ?_ D10.out ?_); rotate_left; (· exact rfl); (· exact rfl); rotate_left; (· go_simp))
              | ((with_reducible refine wpList_loadG (P := Tryd.prog) (w := y2) (ty := 31) (x := .tmp 4) (p := .pointer (some ⟨q4, 0, none⟩)) (v := dv z) ?_ ?_ ?_ D4.out ?_); rotate_left; (· exact rfl); (· exact rfl); rotate_left; (· go_simp))
              | ((with_reducible refine wpList_store_mid (P := Tryd.prog) (w := y2) (ty := 31) (x := .tmp 41) (y := .tmp 40) (b := q) (o := k * 32) (cells := tab 32 fun i => bv (pr z z i)) ?_ ?_ ?_ ?_ ?_ (infH _) (one_bv _ _) ?_); (· exact rfl); (· exact rfl); (· exact rfl); (· exact rfl); (· rw [tab_size]; exact hTH.out)))
            go_wp2_with fail
            go_roundw
            case rel => exact ⟨k + 1, by have := HN2.out; omega, by go_num, Lib.hid (by rw [HSTEP.out (pr z z) HPZ.out]; exact HNX.out (pr z z))⟩
            case measure => simp [intOf]; omega
          · have hbR' : same32 R z = false := by simpa using hbR
            clear hbR
            have HPR := Lib.hid (pair_dv L R y2 (ktab_kept HT.out HS2.out.1.kept hq))
            go_upto_region 8 with (first
              | ((with_reducible refine wpList_loadE (P := Tryd.prog) (w := y2) (ty := 31) (x := .tmp 9) (p := .pointer (some ⟨q9, 0, none⟩)) (v := dv L) ?_ ?_ ?_ D9.out ?_); (· exact rfl); (· exact rfl); (· exact rfl))
              | ((with_reducible refine wpList_loadE (P := Tryd.prog) (w := y2) (ty := 31) (x := .tmp 4) (p := .pointer (some ⟨q4, 0, none⟩)) (v := dv z) ?_ ?_ ?_ D4.out ?_); (· exact rfl); (· exact rfl); (· exact rfl))
              | ((with_reducible refine wpList_loadG (P := Tryd.prog) (w := y2) (ty := 31) (x := .tmp 10) (p := .pointer (some ⟨q10, 0, none⟩)) (v := dv R) ?_ ?_ ?_ D10.out ?_); rotate_left; (· exact rfl); (· exact rfl); rotate_left; (· go_simp))
              | ((with_reducible refine wpList_loadG (P := Tryd.prog) (w := y2) (ty := 31) (x := .tmp 4) (p := .pointer (some ⟨q4, 0, none⟩)) (v := dv z) ?_ ?_ ?_ D4.out ?_); rotate_left; (· exact rfl); (· exact rfl); rotate_left; (· go_simp)))
            go_upto_region 9 with (first
              | ((with_reducible refine wpList_loadE (P := Tryd.prog) (w := y2) (ty := 31) (x := .tmp 9) (p := .pointer (some ⟨q9, 0, none⟩)) (v := dv L) ?_ ?_ ?_ D9.out ?_); (· exact rfl); (· exact rfl); (· exact rfl))
              | ((with_reducible refine wpList_loadE (P := Tryd.prog) (w := y2) (ty := 31) (x := .tmp 10) (p := .pointer (some ⟨q10, 0, none⟩)) (v := dv R) ?_ ?_ ?_ D10.out ?_); (· exact rfl); (· exact rfl); (· exact rfl))
              | (go_at_call 34; refine HPR.out.mono ?_; rintro e y3 ⟨rfl, hb3⟩; have HNY := Lib.hid (HS2.out.1.next hb3); clear hb3)
              | ((with_reducible refine wpList_store_mid (P := Tryd.prog) (w := y3) (ty := 31) (x := .tmp 47) (y := .tmp 46) (b := q) (o := k * 32) (cells := tab 32 fun i => bv (pr L R i)) ?_ ?_ ?_ ?_ ?_ (infH _) (one_bv _ _) ?_); (· exact rfl); (· exact rfl); (· exact rfl); (· exact rfl); (· rw [tab_size]; exact HNY.out.lv.there (k := k) (p := k * 32) (by omega) (by omega) rfl)))
            go_wp2_with fail
            go_roundw
            case rel => exact ⟨k + 1, by have := HN2.out; omega, by go_num, Lib.hid (by rw [HSTEP.out (pr L R) rfl]; exact HNY.out.set k (pr L R) (p := k * 32) (by omega))⟩
            case measure => simp [intOf]; omega
        · have hbL' : same32 L z = false := by simpa using hbL
          clear hbL
          have HPR := Lib.hid (pair_dv L R y2 (ktab_kept HT.out HS2.out.1.kept hq))
          go_upto_region 8 with (first
            | ((with_reducible refine wpList_loadE (P := Tryd.prog) (w := y2) (ty := 31) (x := .tmp 9) (p := .pointer (some ⟨q9, 0, none⟩)) (v := dv L) ?_ ?_ ?_ D9.out ?_); (· exact rfl); (· exact rfl); (· exact rfl))
            | ((with_reducible refine wpList_loadE (P := Tryd.prog) (w := y2) (ty := 31) (x := .tmp 4) (p := .pointer (some ⟨q4, 0, none⟩)) (v := dv z) ?_ ?_ ?_ D4.out ?_); (· exact rfl); (· exact rfl); (· exact rfl))
            | ((with_reducible refine wpList_loadG (P := Tryd.prog) (w := y2) (ty := 31) (x := .tmp 10) (p := .pointer (some ⟨q10, 0, none⟩)) (v := dv R) ?_ ?_ ?_ D10.out ?_); rotate_left; (· exact rfl); (· exact rfl); rotate_left; (· go_simp))
            | ((with_reducible refine wpList_loadG (P := Tryd.prog) (w := y2) (ty := 31) (x := .tmp 4) (p := .pointer (some ⟨q4, 0, none⟩)) (v := dv z) ?_ ?_ ?_ D4.out ?_); rotate_left; (· exact rfl); (· exact rfl); rotate_left; (· go_simp)))
          go_upto_region 9 with (first
            | ((with_reducible refine wpList_loadE (P := Tryd.prog) (w := y2) (ty := 31) (x := .tmp 9) (p := .pointer (some ⟨q9, 0, none⟩)) (v := dv L) ?_ ?_ ?_ D9.out ?_); (· exact rfl); (· exact rfl); (· exact rfl))
            | ((with_reducible refine wpList_loadE (P := Tryd.prog) (w := y2) (ty := 31) (x := .tmp 10) (p := .pointer (some ⟨q10, 0, none⟩)) (v := dv R) ?_ ?_ ?_ D10.out ?_); (· exact rfl); (· exact rfl); (· exact rfl))
            | (go_at_call 34; refine HPR.out.mono ?_; rintro e y3 ⟨rfl, hb3⟩; have HNY := Lib.hid (HS2.out.1.next hb3); clear hb3)
            | ((with_reducible refine wpList_store_mid (P := Tryd.prog) (w := y3) (ty := 31) (x := .tmp 47) (y := .tmp 46) (b := q) (o := k * 32) (cells := tab 32 fun i => bv (pr L R i)) ?_ ?_ ?_ ?_ ?_ (infH _) (one_bv _ _) ?_); (· exact rfl); (· exact rfl); (· exact rfl); (· exact rfl); (· rw [tab_size]; exact HNY.out.lv.there (k := k) (p := k * 32) (by omega) (by omega) rfl)))
          go_wp2_with fail
          go_roundw
          case rel => exact ⟨k + 1, by have := HN2.out; omega, by go_num, Lib.hid (by rw [HSTEP.out (pr L R) rfl]; exact HNY.out.set k (pr L R) (p := k * 32) (by omega))⟩
          case measure => simp [intOf]; omega
    · obtain rfl : k = N := by omega
      have hc1 : (k : Int) ≤ (c : Int) := by have := HN2.out; omega
      go_wp2_with fail
      go_ret
      refine ⟨rfl, hp.out.lv, ?_⟩
      exact hp.out.kept
end Mk
end Go.Proofs.YtnaamljflcgepaaDoor
