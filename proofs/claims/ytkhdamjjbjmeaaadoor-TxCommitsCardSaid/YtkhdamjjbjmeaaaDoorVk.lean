/-
  tx.Commit. Own work.
-/
import Derived.Test.YtkhdamjjbjmeaaaDoorRec
import Derived.Test.YtkhdamjjbjmeaaaDoorV7
import Derived.Test.YtkhdamjjbjmeaaaDoorLv
import Derived.Test.YtkhdamjjbjmeaaaDoorOt
namespace Go.Proofs.YtkhdamjjbjmeaaaDoor
open Go.ChangeShapes Go.WideShapes Go.Deep Go.RowKit
set_option linter.unusedVariables false
set_option linter.unusedSimpArgs false
section
open Go
variable {P : Program}
theorem wpStill_loadE {ops : Array Oper} {w : World} {Q : Act → Prop} {rest : List Oper} {o : Oper} {a : Act} (hgd : o.guard = none) (ty : TypeId) (x : Operand) (ho : o.op = .load ty x) (p v : Value) (hx : a.eval x = p) (hl : (Instr.loadAt ty p).run P w = .ok v w)
    (h : wpStill P ops w Q rest (a.put o.dst v)) : wpStill P ops w Q (o :: rest) a := wpStill_step fun K hK => by
  rw [if_pos (by simp [Region.wanted, hgd])]
  unfold Oper.still execOp
  simp only [ho, hx]
  simp [hl, Oper.stillUpon]
  exact hK _ h
end
namespace Rl
open Kc (tab IsTab)
open Mk (Hx pr dv Lv)
/-- A record's bytes; what is missing. -/
def recL (f : Nat → Nat) : List Bt := (List.range 64).map fun j => BitVec.ofNat 8 (recB f j)
def zL : List Bt := (List.range 64).map fun _ => 0#8
theorem recL_len (f : Nat → Nat) : (recL f).length = 64 := by simp [recL]
theorem zL_len : zL.length = 64 := by simp [zL]
theorem recB_lt (f : Nat → Nat) (j : Nat) : recB f j < 256 := by unfold recB byteOf; exact Nat.mod_lt _ (by decide)
theorem isBs_rec {w : World} {q : Nat} {f : Nat → Nat} (h : IsTab w q 32 64 fun j => ub (recB f j)) : Kc.IsBs w (some ⟨q, 0, none⟩) (recL f) := .inr ⟨q, 0, rfl, fun j hj => by
  rw [recL_len] at hj
  rw [Nat.zero_add, h.cell j hj]
  have e : (recL f).getD j 0#8 = BitVec.ofNat 8 (recB f j) := by simp [recL, hj]
  rw [e]
  unfold ub Kc.bv Kc.Bv
  rw [BitVec.toNat_ofNat, Nat.mod_eq_of_lt (recB_lt f j)]⟩
theorem isBs_zero {w : World} {q : Nat} (h : IsTab w q 32 64 fun _ => ub 0) : Kc.IsBs w (some ⟨q, 0, none⟩) zL := .inr ⟨q, 0, rfl, fun j hj => by
  rw [zL_len] at hj
  rw [Nat.zero_add, h.cell j hj]
  have e : zL.getD j 0#8 = 0#8 := by simp [zL, hj]
  rw [e]
  rfl⟩
/-- The leaves; one level more. -/
def leaf (fs : List (Nat → Nat)) (k : Nat) : Hx := Kc.sum (match fs[k]? with | some f => recL f | none => zL)
def up (f : Nat → Hx) (m : Nat) : Nat → Hx := fun k => if k < m then pr (f (2 * k)) (f (2 * k + 1)) else f k
def com (fs : List (Nat → Nat)) : Hx := up (up (up (leaf fs) 4) 2) 1 0
theorem com_eq (fs : List (Nat → Nat)) : com fs = pr (pr (pr (leaf fs 0) (leaf fs 1)) (pr (leaf fs 2) (leaf fs 3))) (pr (pr (leaf fs 4) (leaf fs 5)) (pr (leaf fs 6) (leaf fs 7))) := rfl
theorem up_zero (f : Nat → Hx) : up f 0 = f := by funext k; unfold up; rw [if_neg (by omega)]
theorem up_next (f : Nat → Hx) (m : Nat) : (fun k => if k = m then pr (f (2 * m)) (f (2 * m + 1)) else up f m k) = up f (m + 1) := by
  funext k
  unfold up
  by_cases h : k = m
  · rw [if_pos h, if_pos (by omega), h]
  · rw [if_neg h]
    by_cases h2 : k < m
    · rw [if_pos h2, if_pos (by omega)]
    · rw [if_neg h2, if_neg (by omega)]
theorem up_at (f : Nat → Hx) (m k : Nat) (h : m ≤ k) : up f m k = f k := by unfold up; rw [if_neg (by omega)]
def hz : Hx := fun _ => 0#8
def comH (fs : List (Nat → Nat)) : Hx := if fs.length ≤ 8 then com fs else hz
theorem zero8 (w : World) : (zeroValue 30).run Tryd.prog w = .ok (.agg (tab 256 fun _ => Kc.bv 0#8)) w := by kernel_rfl
theorem inf8' : (Tryd.prog.info? 30).map (·.size) = some 256 := by kernel_rfl
theorem zeroP4' : (fun _ : Nat => ub 0) = fun _ => Kc.bv 0#8 := rfl
/-- What Commit's loops keep. -/
structure Cm (w : World) (q2 q4 : Nat) (f : Nat → Hx) (y : World) : Prop where
  below : Below w.heap.size w y
  res : IsTab y q2 24 32 fun _ => Kc.bv 0#8
  lv : Lv y q4 30 8 f
  n24 : q2 ≠ q4
  g2 : w.heap.size ≤ q2
  g4 : w.heap.size ≤ q4
section
variable {w y y' : World} {q2 q4 : Nat} {f g : Nat → Hx}
theorem Cm.next (h : Cm w q2 q4 f y) (hb : Below y.heap.size y y') : Cm w q2 q4 f y' := ⟨bl h.below hb, h.res.below hb, h.lv.below hb, h.n24, h.g2, h.g4⟩
theorem Cm.set (h : Cm w q2 q4 f y) (k : Nat) (x : Hx) {p : Nat} (hp : p = 32 * k) : Cm w q2 q4 (fun i => if i = k then x else f i) (y.setCells q4 p (tab 32 fun i => Kc.bv (x i)).toList) :=
  ⟨Mk.below_setCells h.g4 _ _ _ h.below, Mk.IsTab.cellsOther (w := y) h.n24 _ _ _ h.res, h.lv.set k x hp, h.n24, h.g2, h.g4⟩
theorem Cm.rowOther (h : Cm w q2 q4 f y) (q : Nat) (hq : w.heap.size ≤ q) (h4 : q4 ≠ q) (h2 : q2 ≠ q) (cs : Array Value) : Cm w q2 q4 f (y.setRow q cs) :=
  ⟨Kc.below_setRow h.below hq cs, h.res.rowOther h2, h.lv.rowOther h4, h.n24, h.g2, h.g4⟩
theorem Cm.cong (h : Cm w q2 q4 f y) (e : ∀ k, k < 8 → f k = g k) : Cm w q2 q4 g y := ⟨h.below, h.res, h.lv.cong e, h.n24, h.g2, h.g4⟩
end
theorem lv_heap {w y : World} {q T N : Nat} {f : Nat → Hx} (h : Lv w q T N f) (hy : y.heap = w.heap) : Lv y q T N f := by
  obtain ⟨m, g, h1, h2, h3⟩ := h
  exact ⟨m, g, by unfold IsTab at *; rw [hy]; exact h1, h2, h3⟩
set_option maxHeartbeats 4000000 in
set_option maxRecDepth 100000 in
theorem txCommit_long (w : World) (a : Option Addr) (n c : Nat) (h8 : 8 < n) :
    Calls Tryd.prog 7 #[.slice a n c] w fun e w' => e = .returned (.tuple #[dv hz, eN 5]) ∧ Below w.heap.size w w' := by
  have z2 := Kc.zeroHash
  obtain ⟨zh, hzh⟩ : ∃ z, (tab 32 fun _ => Kc.bv 0#8) = z := ⟨_, rfl⟩
  rw [hzh] at z2
  have HZ := Lib.hid hzh
  have h1 : (8 : Int) < n := by omega
  clear hzh h8
  go_enter Tryd.func7, Tryd.ntmps7
  go_upto_region 1 with (fail)
  have HT0 : Hid (IsTab (w.alloc (.cells zh 24)) w.heap.size 24 32 fun _ => Kc.bv 0#8) := Lib.hid (by rw [← HZ.out]; exact IsTab.new w _ 32 _)
  have HB0 := Lib.hid (ba w (.cells zh 24))
  have HB0 : Hid (Below w.heap.size w (w.alloc (.cells zh 24))) := HB0
  generalize w.alloc (.cells zh 24) = y0 at *
  go_wp2_with (refine wpList_store_row rfl 24 (.tmp 2) (.tmp 12) rfl w.heap.size zh rfl rfl 24 _ HT0.out (by rw [← HZ.out]; exact Kc.infH _) (by rw [← HZ.out, Kc.tab_size]) (by rw [← HZ.out]; exact Kc.one_bv _ _) ?_)
  have hr : IsTab (World.setRow y0 w.heap.size zh) w.heap.size 24 32 fun _ => Kc.bv 0#8 := by rw [← HZ.out]; exact HT0.out.row
  have hbb := Kc.below_setRow HB0.out (Nat.le_refl _) zh
  exact bodyPost_ret (Kc.results_cell_tmp rfl _ _ w.heap.size 24 _ (0, 0) _ rfl hr Kc.undH rfl (Kc.infH _) (.iface 64 (.int .i64 5)) rfl) rfl ⟨rfl, hbb⟩
theorem sum64 (w : World) (q : Nat) (X : List Bt) (hX : X.length = 64) (ht : Laid.KTab w) (hB : Kc.IsBs w (some ⟨q, 0, none⟩) X) (hq : q < w.heap.size) :
    Calls Tryd.prog 10 #[.slice (some ⟨q, 0, none⟩) 64 64] w fun e w' => e = .returned (dv (Kc.sum X)) ∧ Below w.heap.size w w' := by
  have h := Kc.sum_walk Kc.permIs X (some ⟨q, 0, none⟩) 64 w ht hB (fun z hz => by cases hz; exact hq) (by rw [hX]; exact Nat.le_refl _) (by decide)
  rw [hX] at h
  exact h
set_option maxHeartbeats 8000000 in
set_option maxRecDepth 100000 in
theorem txCommit_ok (w : World) (a : Option Addr) (n c : Nat) (fs : List (Nat → Nat)) (hT : IsT w a n c fs) (hf : ∀ f ∈ fs, ∀ i, i < 6 → f i < 18446744073709551616) (ht : Laid.KTab w) (h8 : n ≤ 8) :
    Calls Tryd.prog 7 #[.slice a n c] w fun e w' => e = .returned (.tuple #[dv (com fs), .nilIface]) ∧ Below w.heap.size w w' := by
  have HT := Lib.hid hT
  have HF := Lib.hid hf
  have HK := Lib.hid ht
  have HN := Lib.hid (show n = fs.length ∧ n ≤ 8 from ⟨hT.1, h8⟩)
  have z2 := Kc.zeroHash
  obtain ⟨zh, hzh⟩ : ∃ z, (tab 32 fun _ => Kc.bv 0#8) = z := ⟨_, rfl⟩
  rw [hzh] at z2
  have z8 := zero8
  obtain ⟨z9, hz9⟩ : ∃ z, (tab 256 fun _ => Kc.bv 0#8) = z := ⟨_, rfl⟩
  rw [hz9] at z8
  have zp := zeroP4
  obtain ⟨zq, hzq⟩ : ∃ z, tab 64 (fun _ => ub 0) = z := ⟨_, rfl⟩
  rw [hzq] at zp
  have HZ := Lib.hid (And.intro hzh (And.intro hz9 hzq))
  have h1 : ¬ (8 : Int) < n := by omega
  clear hzh hz9 hzq hT hf ht h8
  have HZ8 : Hid ((Tryd.prog.info? 30).map (·.size) = some z9.size ∧ z9.all (·.oneCell') = true ∧ z9.size = 256) := Lib.hid (by rw [← HZ.out.2.1]; exact ⟨by rw [Kc.tab_size]; exact inf8', Kc.one_bv _ _, Kc.tab_size _ _⟩)
  have HZQ : Hid ((Tryd.prog.info? 32).map (·.size) = some zq.size ∧ zq.all (·.oneCell') = true ∧ zq.size = 64) := Lib.hid (by rw [← HZ.out.2.2]; exact ⟨infP4 _, Kc.tab_one fun i => rfl, Kc.tab_size _ _⟩)
  go_enter Tryd.func7, Tryd.ntmps7
  go_upto_region 1 with (fail)
  have HT0 : Hid (IsTab (w.alloc (.cells zh 24)) w.heap.size 24 32 fun _ => Kc.bv 0#8) := Lib.hid (by rw [← HZ.out.1]; exact IsTab.new w _ 32 _)
  have HB0 : Hid (Below w.heap.size w (w.alloc (.cells zh 24)) ∧ (w.alloc (.cells zh 24)).heap.size = w.heap.size + 1) := Lib.hid ⟨ba w _, by simp⟩
  generalize w.alloc (.cells zh 24) = y0 at *
  go_upto_region 4 with (refine wpList_store_row rfl 30 (.tmp 4) (.tmp 14) rfl y0.heap.size z9 rfl rfl 30 z9 (heap_alloc_last y0 _) HZ8.out.1 rfl HZ8.out.2.1 ?_)
  rw [World.setRow_alloc_new]
  simp only [Act.put]
  have HC0 : Hid (Cm w w.heap.size y0.heap.size (fun _ => hz) (y0.alloc (.cells z9 30))) := Lib.hid ⟨bl HB0.out.1 (ba _ _), HT0.out.alloc _, ⟨256, fun _ => Kc.bv 0#8, by rw [← HZ.out.2.1]; exact IsTab.new y0 _ 256 _, by decide, fun k j _ _ => rfl⟩, by have := HB0.out.2; omega, Nat.le_refl _, HB0.out.1.size⟩
  clear HT0 HB0 z8 z2 h1
  generalize y0.alloc (.cells z9 30) = y1 at *
  generalize y0.heap.size = q4 at *
  go_wp2_with (fail)
  go_loopw [15] (fun i y => ∃ j : Nat, i = .int .i64 j ∧ Hid (j ≤ 8 ∧ ∃ f, Cm w w.heap.size q4 f y ∧ ∀ k, k < j → f k = leaf fs k)) (fun i _ => 8 - (intOf i).toNat)
  case atStart => exact ⟨0, rfl, Lib.hid ⟨Nat.zero_le _, _, HC0.out, fun k h => absurd h (Nat.not_lt_zero k)⟩⟩
  case round =>
    obtain ⟨j, rfl, hp⟩ := hrel
    obtain ⟨hj8, f, hC, hL⟩ := hp.out
    have HC := Lib.hid hC
    have HL := Lib.hid hL
    have HJ8 := Lib.hid hj8
    clear hp HC0 hC hL hj8
    by_cases hlt : (j : Int) < 8
    · have HJ := Lib.hid (show j < 8 ∧ wrap64 ((j : Int) + 1) = ((j + 1 : Nat) : Int) by refine ⟨by omega, ?_⟩; unfold wrap64; omega)
      go_upto_region 8 with (refine wpList_store_row rfl 32 (.tmp 6) (.tmp 18) rfl wr.heap.size zq rfl rfl 32 zq (heap_alloc_last wr _) HZQ.out.1 rfl HZQ.out.2.1 ?_)
      rw [World.setRow_alloc_new]
      simp only [Act.put]
      have HC2 := Lib.hid (HC.out.next (ba wr (.cells zq 32)))
      have HS2 : Hid (IsTab (wr.alloc (.cells zq 32)) wr.heap.size 32 64 fun _ => ub 0) := Lib.hid (by rw [← HZ.out.2.2]; exact IsTab.new wr _ 64 _)
      have HG2 := Lib.hid (show w.heap.size < wr.heap.size from HC.out.res.lt)
      have HG6 := Lib.hid (show w.heap.size ≤ wr.heap.size ∧ q4 < wr.heap.size from ⟨HC.out.below.size, HC.out.lv.lt⟩)
      generalize wr.alloc (.cells zq 32) = y2 at *
      generalize wr.heap.size = q6 at *
      have s1 := slP4 q6
      by_cases hjn : (j : Int) < n
      · obtain ⟨b, o, f0, rfl, hfj, G0, G1, G2, G3, G4, G5⟩ := (HT.out.keep (keep_below HC2.out.below)).at (show j < n by omega)
        have HRC := Lib.hid (record_walk y2 f0 (HF.out f0 (List.mem_of_getElem? hfj)))
        have HLF := Lib.hid (show leaf fs j = Kc.sum (recL f0) by unfold leaf; rw [hfj])
        clear hfj
        go_upto_region 10 with (first
          | (go_at_call 9; (with_reducible refine HRC.out.mono ?_); rintro e y3 ⟨rfl, hb⟩
             have HC3 := Lib.hid (HC2.out.next hb)
             have HS3 := Lib.hid (HS2.out.below hb)
             clear hb HRC HC2 HS2)
          | (refine wpList_store_row rfl 32 (.tmp 6) (.tmp 27) rfl q6 (tab 64 fun j => ub (recB f0 j)) rfl rfl 32 _ HS3.out (infP4 _) (by rw [Kc.tab_size, Kc.tab_size]) (Kc.tab_one fun i => rfl) ?_))
        clear G0 G1 G2 G3 G4 G5
        have HS4 : Hid (IsTab (y3.setRow q6 (tab 64 fun j => ub (recB f0 j))) q6 32 64 fun j => ub (recB f0 j)) := Lib.hid HS3.out.row
        have HC4 := Lib.hid (HC3.out.rowOther q6 HG6.out.1 (by have := HG6.out.2; omega) (fun e => by have := HG2.out; omega) (tab 64 fun j => ub (recB f0 j)))
        generalize y3.setRow q6 (tab 64 fun j => ub (recB f0 j)) = y4 at *
        have HSM := Lib.hid (sum64 y4 q6 (recL f0) (recL_len f0) (Kc.ktab_below HK.out HC4.out.below) (isBs_rec HS4.out) HS4.out.lt)
        rw [← HLF.out] at HSM
        go_wp2_with (first
          | (go_at_call 10; (with_reducible refine HSM.out.mono ?_); rintro e y5 ⟨rfl, hb⟩
             have HC5 := Lib.hid (HC4.out.next hb)
             clear hb HSM)
          | ((with_reducible refine wpList_store_mid (P := Tryd.prog) (w := y5) (ty := 24) (x := .tmp 31) (y := .tmp 30) (b := q4) (o := j * 32) (cells := tab 32 fun i => Kc.bv (leaf fs j i)) ?_ ?_ ?_ ?_ ?_ (Kc.infH _) (Kc.one_bv _ _) ?_); (· exact rfl); (· exact rfl); (· exact rfl); (· exact rfl); (· rw [Kc.tab_size]; exact HC5.out.lv.there (k := j) (p := j * 32) HJ.out.1 (by omega) rfl)))
        try rw [HJ.out.2]
        go_roundw
        case rel => exact ⟨j + 1, rfl, Lib.hid ⟨HJ.out.1, _, HC5.out.set j (leaf fs j) (p := j * 32) (by omega), fun k hk => by
          by_cases e : k = j
          · rw [if_pos e, e]
          · rw [if_neg e]; exact HL.out k (by omega)⟩⟩
        case measure => have := HJ.out.1; show 8 - (j + 1) < 8 - j; omega
      · have HLF := Lib.hid (show leaf fs j = Kc.sum zL by unfold leaf; rw [List.getElem?_eq_none (by have := HN.out.1; omega)])
        have HSM := Lib.hid (sum64 y2 q6 zL zL_len (Kc.ktab_below HK.out HC2.out.below) (isBs_zero HS2.out) HS2.out.lt)
        rw [← HLF.out] at HSM
        go_wp2_with (first
          | (go_at_call 10; (with_reducible refine HSM.out.mono ?_); rintro e y5 ⟨rfl, hb⟩
             have HC5 := Lib.hid (HC2.out.next hb)
             clear hb HSM)
          | ((with_reducible refine wpList_store_mid (P := Tryd.prog) (w := y5) (ty := 24) (x := .tmp 31) (y := .tmp 30) (b := q4) (o := j * 32) (cells := tab 32 fun i => Kc.bv (leaf fs j i)) ?_ ?_ ?_ ?_ ?_ (Kc.infH _) (Kc.one_bv _ _) ?_); (· exact rfl); (· exact rfl); (· exact rfl); (· exact rfl); (· rw [Kc.tab_size]; exact HC5.out.lv.there (k := j) (p := j * 32) HJ.out.1 (by omega) rfl)))
        try rw [HJ.out.2]
        go_roundw
        case rel => exact ⟨j + 1, rfl, Lib.hid ⟨HJ.out.1, _, HC5.out.set j (leaf fs j) (p := j * 32) (by omega), fun k hk => by
          by_cases e : k = j
          · rw [if_pos e, e]
          · rw [if_neg e]; exact HL.out k (by omega)⟩⟩
        case measure => have := HJ.out.1; show 8 - (j + 1) < 8 - j; omega
    · have HC9 := Lib.hid (HC.out.cong (fun k hk => HL.out k (by omega)))
      clear HC HL HJ8
      go_wp2_with (fail)
      clear hlt
      go_loopg [7] 4 (fun g i y => ∃ f : Nat → Hx, i = .int .i64 (g : Nat) ∧ Hid (((g = 4 ∧ f = leaf fs) ∨ (g = 2 ∧ f = up (leaf fs) 4) ∨ (g = 1 ∧ f = up (up (leaf fs) 4) 2) ∨ (g = 0 ∧ f = up (up (up (leaf fs) 4) 2) 1)) ∧ Cm w w.heap.size q4 f y))
      case atStart => exact ⟨_, rfl, Lib.hid ⟨.inl ⟨rfl, rfl⟩, HC9.out⟩⟩
      case round =>
        obtain ⟨F, rfl, hp⟩ := hrel
        have HCF := Lib.hid hp.out.2
        have HLV := Lib.hid hp.out.1
        have HG4 := Lib.hid (show gk ≤ 4 by rcases hp.out.1 with h | h | h | h <;> omega)
        clear hp HC9
        obtain ⟨N, rfl⟩ : ∃ N, N = gk := ⟨_, rfl⟩
        by_cases hg : (0 : Int) < N
        · have HGP := Lib.hid (show 0 < N by omega)
          go_upto_region 16 with (fail)
          rw [decide_eq_true HGP.out]
          go_loopg [38] N (fun g i y => ∃ m : Nat, i = .int .i64 m ∧ Hid (g = N - m ∧ m ≤ N ∧ Cm w w.heap.size q4 (up F m) y))
          case atStart => exact ⟨0, rfl, Lib.hid ⟨rfl, Nat.zero_le _, by rw [up_zero]; exact HCF.out⟩⟩
          case round =>
            obtain ⟨m, rfl, hp⟩ := hrel
            have HI := Lib.hid hp.out
            clear hp hg
            by_cases hm : (m : Int) < N
            · have HJ := Lib.hid (show m < N ∧ N ≤ 4 ∧ wrap64 ((m : Int) + 1) = ((m + 1 : Nat) : Int) by have := HG4.out; refine ⟨by omega, by omega, ?_⟩; unfold wrap64; omega)
              obtain ⟨M2, hM2⟩ : ∃ x, 2 * m = x := ⟨_, rfl⟩
              obtain ⟨M3, hM3⟩ : ∃ x, M2 + 1 = x := ⟨_, rfl⟩
              have e1 : wrap64 (2 * (m : Int)) = (M2 : Int) := by have := HJ.out; unfold wrap64; omega
              have e2 : wrap64 ((M2 : Int) + 1) = (M3 : Int) := by have := HJ.out; unfold wrap64; omega
              have e3 : IntKind.i64.wrap (2 * (m : Int)) = (M2 : Int) := by have := HJ.out; rw [IntKind.wrap_i64]; omega
              have e4 : IntKind.i64.wrap ((M2 : Int) + 1) = (M3 : Int) := by have := HJ.out; rw [IntKind.wrap_i64]; omega
              have b1 : (M2 : Int) < 8 := by have := HJ.out; omega
              have b2 : (M3 : Int) < 8 := by have := HJ.out; omega
              have b3 : (m : Int) < 8 := by have := HJ.out; omega
              have HMM := Lib.hid (And.intro hM2 hM3)
              clear hM2 hM3
              go_upto_region 18 with (fail)
              clear hm
              refine wp_region_og (fun _ => True) (.take 0 (.take 1 (.take 2 (.take 3 (.take 5 (.take 6 (.take 7 (.take 8 (.two 4 (.one 9 (.one 10 (.one 11 (.one 12 .done)))) 9 (.one 4 (.one 10 (.one 11 (.one 12 .done))))))))))))) (by kernel_rfl) (by kernel_rfl) trivial ?_
              have HD := Lib.hid (HI.out.2.2.next (Below.refl _ _).drew)
              generalize World.drew _ = wd at *
              refine og_tk (some 41) (.int .i64 m) rfl rfl (by go_simp) (fun _ _ => by simp [execOp, go_sem]) ?_
              refine og_tk (some 42) (.int .i64 m) rfl rfl (by go_simp) (fun _ _ => by simp [execOp, go_sem]) ?_
              refine og_tk (some 43) (.int .i64 M2) rfl rfl (by go_simp) (fun _ _ => by simp [execOp, go_sem, e3]) ?_
              refine og_tk (some 44) (.pointer (some ⟨q4, M2 * 32, none⟩)) rfl rfl (by go_simp) (fun _ _ => by simp [execOp, go_sem, b1, add_at]) ?_
              refine og_tk (some 46) (.int .i64 m) rfl rfl (by go_simp) (fun _ _ => by simp [execOp, go_sem]) ?_
              refine og_tk (some 47) (.int .i64 M2) rfl rfl (by go_simp) (fun _ _ => by simp [execOp, go_sem, e3]) ?_
              refine og_tk (some 48) (.int .i64 M3) rfl rfl (by go_simp) (fun _ _ => by simp [execOp, go_sem, e4]) ?_
              refine og_tk (some 49) (.pointer (some ⟨q4, M3 * 32, none⟩)) rfl rfl (by go_simp) (fun _ _ => by simp [execOp, go_sem, b2, add_at]) ?_
              simp only [Act.put, List.setIfInBounds_toArray, List.set_cons_zero, List.set_cons_succ]
              have D1 := Mk.loadH HD.out.lv.at5 (k := M2) (p := M2 * 32) (by have := HJ.out; have := HMM.out; omega) (by omega)
              have D2 := Mk.loadH HD.out.lv.at5 (k := M3) (p := M3 * 32) (by have := HJ.out; have := HMM.out; omega) (by omega)
              rw [up_at F m M2 (by have := HMM.out; omega)] at D1
              rw [up_at F m M3 (by have := HMM.out; omega)] at D2
              have D1 := Lib.hid D1
              have D2 := Lib.hid D2
              have HPR := Lib.hid (Mk.pair_dv (F M2) (F M3) wd (Kc.ktab_below HK.out HD.out.below))
              clear e1 e2 e3 e4 b1 b2
              have HB3 := Lib.hid b3
              clear b3
              refine og_two ?_ ?_
              · skip
                refine og_of rfl (by go_simp) fun K hK => ?_
                refine wp_loadE 24 (.tmp 44) rfl (.pointer (some ⟨q4, M2 * 32, none⟩)) (dv (F M2)) rfl D1.out (hK _ _ trivial ?_)
                try simp only [Act.put, List.setIfInBounds_toArray, List.set_cons_zero, List.set_cons_succ]
                clear hK K
                refine og_f rfl (by go_simp) fun K hK => ?_
                refine wp_loadE 24 (.tmp 49) rfl (.pointer (some ⟨q4, M3 * 32, none⟩)) (dv (F M3)) rfl D2.out (hK _ _ trivial ?_)
                try simp only [Act.put, List.setIfInBounds_toArray, List.set_cons_zero, List.set_cons_succ]
                clear hK K
                refine og_f rfl (by go_simp) fun K hK => ?_
                go_simp
                refine HPR.out.mono ?_
                rintro r y3 ⟨rfl, hb⟩
                have HC3 := Lib.hid (HD.out.next hb)
                refine hK _ _ trivial ?_
                try simp only [Act.put, List.setIfInBounds_toArray, List.set_cons_zero, List.set_cons_succ]
                clear hK K hb
                refine og_f rfl (by go_simp) fun K hK => ?_
                have b3 := HB3.out
                go_simp
                refine hK _ _ trivial ?_
                try simp only [Act.put, List.setIfInBounds_toArray, List.set_cons_zero, List.set_cons_succ]
                clear hK K b3
                refine og_f rfl (by go_simp) fun K hK => ?_
                refine wp_store_mid (w := y3) 24 (.tmp 52) (.tmp 51) rfl q4 (m * 32) (tab 32 fun i => Kc.bv (pr (F M2) (F M3) i)) rfl rfl (by rw [Kc.tab_size]; exact HC3.out.lv.there (k := m) (p := m * 32) (by have := HJ.out; omega) (by omega) rfl) (Kc.infH _) (Kc.one_bv _ _) (hK _ _ trivial ?_)
                clear hK K
                refine og_done (NoPanic.normal ?_)
                go_wp2_with (fail)
                try rw [HJ.out.2.2]
                go_roundg (N - (m + 1))
                case measure => have := HJ.out; have := HI.out.1; omega
                case rel => exact ⟨m + 1, rfl, Lib.hid ⟨rfl, HJ.out.1, by
                  have h9 := HC3.out.set m (pr (F M2) (F M3)) (p := m * 32) (by omega)
                  rw [← HMM.out.2, ← HMM.out.1, up_next] at h9
                  rw [← HMM.out.2, ← HMM.out.1]
                  exact h9⟩⟩
              · skip
                refine og_of rfl (by go_simp) fun K hK => ?_
                refine wp_loadE 24 (.tmp 49) rfl (.pointer (some ⟨q4, M3 * 32, none⟩)) (dv (F M3)) rfl D2.out (hK _ _ trivial ?_)
                try simp only [Act.put, List.setIfInBounds_toArray, List.set_cons_zero, List.set_cons_succ]
                clear hK K
                refine og_f rfl (by go_simp) fun K hK => ?_
                refine wp_loadE 24 (.tmp 44) rfl (.pointer (some ⟨q4, M2 * 32, none⟩)) (dv (F M2)) rfl D1.out (hK _ _ trivial ?_)
                try simp only [Act.put, List.setIfInBounds_toArray, List.set_cons_zero, List.set_cons_succ]
                clear hK K
                refine og_f rfl (by go_simp) fun K hK => ?_
                go_simp
                refine HPR.out.mono ?_
                rintro r y3 ⟨rfl, hb⟩
                have HC3 := Lib.hid (HD.out.next hb)
                refine hK _ _ trivial ?_
                try simp only [Act.put, List.setIfInBounds_toArray, List.set_cons_zero, List.set_cons_succ]
                clear hK K hb
                refine og_f rfl (by go_simp) fun K hK => ?_
                have b3 := HB3.out
                go_simp
                refine hK _ _ trivial ?_
                try simp only [Act.put, List.setIfInBounds_toArray, List.set_cons_zero, List.set_cons_succ]
                clear hK K b3
                refine og_f rfl (by go_simp) fun K hK => ?_
                refine wp_store_mid (w := y3) 24 (.tmp 52) (.tmp 51) rfl q4 (m * 32) (tab 32 fun i => Kc.bv (pr (F M2) (F M3) i)) rfl rfl (by rw [Kc.tab_size]; exact HC3.out.lv.there (k := m) (p := m * 32) (by have := HJ.out; omega) (by omega) rfl) (Kc.infH _) (Kc.one_bv _ _) (hK _ _ trivial ?_)
                clear hK K
                refine og_done (NoPanic.normal ?_)
                go_wp2_with (fail)
                try rw [HJ.out.2.2]
                go_roundg (N - (m + 1))
                case measure => have := HJ.out; have := HI.out.1; omega
                case rel => exact ⟨m + 1, rfl, Lib.hid ⟨rfl, HJ.out.1, by
                  have h9 := HC3.out.set m (pr (F M2) (F M3)) (p := m * 32) (by omega)
                  rw [← HMM.out.2, ← HMM.out.1, up_next] at h9
                  rw [← HMM.out.2, ← HMM.out.1]
                  exact h9⟩⟩
            · obtain rfl : m = N := by have := HI.out.2.1; omega
              clear hm
              have e3 : wrap64 ((m : Int) / 2) = ((m / 2 : Nat) : Int) := by have := HG4.out; unfold wrap64; omega
              have HE3 := Lib.hid e3
              clear e3
              go_wp2_with (fail)
              try rw [HE3.out]
              go_roundg (m / 2)
              case measure => have := HGP.out; omega
              case rel => exact ⟨up F m, rfl, Lib.hid ⟨by
                rcases HLV.out with ⟨h, e⟩ | ⟨h, e⟩ | ⟨h, e⟩ | ⟨h, e⟩
                · subst h; rw [e]; exact .inr (.inl ⟨rfl, rfl⟩)
                · subst h; rw [e]; exact .inr (.inr (.inl ⟨rfl, rfl⟩))
                · subst h; rw [e]; exact .inr (.inr (.inr ⟨rfl, rfl⟩))
                · have := HGP.out; omega, HI.out.2.2⟩⟩
        · have hN0 : N = 0 := by omega
          subst hN0
          have HFF : Hid (F = up (up (up (leaf fs) 4) 2) 1) := Lib.hid (by rcases HLV.out with h | h | h | h <;> first | (exact absurd h.1 (by decide)) | exact h.2)
          have D1 := Lib.hid (show (Instr.loadAt 24 (.pointer (some ⟨q4, 0, none⟩))).run Tryd.prog wr = .ok (dv (com fs)) wr by
            have := Mk.loadH HCF.out.lv.at5 (k := 0) (p := 0) (by decide) (by omega)
            rw [HFF.out] at this
            exact this)
          clear hg
          go_wp2_with (first
            | ((with_reducible refine wpList_loadE (P := Tryd.prog) (w := wr) (ty := 24) (x := .tmp 54) (p := .pointer (some ⟨q4, 0, none⟩)) (v := dv (com fs)) ?_ ?_ ?_ D1.out ?_); (· exact rfl); (· exact rfl); (· exact rfl))
            | (refine wpList_store_row rfl 24 (.tmp 2) (.tmp 55) rfl w.heap.size (tab 32 fun i => Kc.bv (com fs i)) rfl rfl 24 _ HCF.out.res (Kc.infH _) (by rw [Kc.tab_size, Kc.tab_size]) (Kc.one_bv _ _) ?_))
          have hr : IsTab (World.setRow wr w.heap.size (tab 32 fun i => Kc.bv (com fs i))) w.heap.size 24 32 fun i => Kc.bv (com fs i) := HCF.out.res.row
          have hbb := Kc.below_setRow HCF.out.below (Nat.le_refl _) (tab 32 fun i => Kc.bv (com fs i))
          exact bodyPost_ret (Kc.results_cell_tmp rfl _ _ w.heap.size 24 _ (0, 0) _ rfl hr Kc.undH rfl (Kc.infH _) .nilIface rfl) rfl ⟨rfl, hbb⟩
end Rl
end Go.Proofs.YtkhdamjjbjmeaaaDoor
