/-
  KeccakSums. Own work.
-/
import Derived.Test.YtdmbmilfclllaaaDoorRpair
import Derived.Test.YtdmbmilfclllaaaDoorKfix
import Derived.Test.YtdmbmilfclllaaaDoorEqa
import Derived.Laws.BytesArg
namespace Go.Proofs.YtdmbmilfclllaaaDoor
open Go.RowKit
set_option linter.unusedVariables false
section
variable {P : Program} {md : Region.Mode} {ops : Array Oper} {C : World → Prop}
/-- A conversion that is known in every world of the class, as a step of a drawn region. -/
theorem wpQuiet_convg {Q : Act → Prop} {a : Act} {o : Oper} {rest : List Oper} (src dst : TypeId) (x : Operand) (p v : Value) (hw : Region.wanted o (yielded ops a.tmps) = true) (ho : o.op = .convert src dst x) (hx : a.eval x = p)
    (hl : ∀ w, C w → (convert src dst p).run P w = .ok v w) (h : wpQuiet P ops C Q rest (a.put o.dst v)) : wpQuiet P ops C Q (o :: rest) a := by
  unfold wpQuiet
  rw [hw, if_pos rfl]
  refine ⟨v, fun w hw => ?_, h⟩
  unfold Oper.quietAt execOp
  simp only [ho, hx]
  simp [hl w hw, Oper.quietUpon, Result.andThen]
end
namespace Kc
theorem undStr : Tryd.prog.underlying 9 = some .string := by kernel_rfl
theorem conv_bytes {w : World} {a : Option Addr} {l : List Bt} {cap : Nat} (hB : IsBs w a l) (hnil : a = none → l = []) : (convert 22 9 (.slice a l.length cap)).run Tryd.prog w = .ok (.string (strOfNums (l.map Bv))) w := by
  cases a with
  | none => rw [hnil rfl]; exact run_convert_bytes_nil w _ _ und22 undU8 _ _ _ undStr
  | some ad =>
    have hl : (loadCells ad l.length).run Tryd.prog w = .ok ((l.map Bv).map (Value.int .u8)).toArray w := by
      have := run_loadCells_list (P := Tryd.prog) w ad ((l.map Bv).map (Value.int .u8)) (fun j v hj => by
        rw [List.getElem?_map, List.getElem?_map] at hj
        have hlt : j < l.length := by
          rcases Nat.lt_or_ge j l.length with h | h
          · exact h
          · rw [List.getElem?_eq_none h] at hj; cases hj
        rcases hB with rfl | ⟨b, o, h1, h2⟩
        · cases hj
        · injection h1 with h1; subst h1
          rw [add_at, h2 j hlt, List.getD_eq_getElem?_getD]
          rw [List.getElem?_eq_getElem hlt] at hj ⊢
          injection hj with hj
          subst hj
          rfl)
      simpa using this
    rw [run_convert_bytes_string w _ _ _ _ _ cap und22 undU8 undStr, run_bytesToString w ad _ cap (l.map Bv) hl, foldl_push_bytes]
    simp [strOfNums, ByteArray.empty, ByteArray.emptyWithCapacity]
    rfl
/-- A row of the call's own, as a slice of bytes. -/
theorem slice_of {w : World} {q : Nat} {V : Value} {n : Nat} {l : List Bt} (h : w.ownsRow q 5 1 V n (l.map bv)) :
    ∃ a c, V = .slice a l.length c ∧ IsBs w a l ∧ (a = none → l = [] ∧ c = 0) ∧ l.length ≤ c ∧ c ≤ maxLen ∧ (∀ x, a = some x → x.block < w.heap.size) := by
  obtain ⟨h0, h1⟩ := h
  have hl : l.length = n := by simpa using h0
  rcases h1 with ⟨rfl, e⟩ | ⟨g, cap, cur, rfl, hg, hc, hnc, hm, hs, ht⟩
  · subst e
    exact ⟨none, 0, by rw [hl], .inl (List.eq_nil_of_length_eq_zero hl), fun _ => ⟨List.eq_nil_of_length_eq_zero hl, rfl⟩, by omega, by decide, fun x hx => by cases hx⟩
  · refine ⟨_, cap, by rw [hl], .inr ⟨g, 0, rfl, fun j hj => ?_⟩, fun h => (by cases h), by omega, hm, fun x hx => by injection hx with hx; subst hx; exact (Array.getElem?_eq_some_iff.1 hc).1⟩
    have e1 : (cur.toList.take (n * 1))[j]? = (l.map bv)[j]? := by rw [ht]
    rw [List.getElem?_take, if_pos (by omega), List.getElem?_map, List.getElem?_eq_getElem hj] at e1
    rw [Nat.zero_add, cell_of_row w g j _ _ _ hc, List.getD_eq_getElem?_getD, List.getElem?_eq_getElem hj]
    simpa using e1
structure Ss (W : World) (q0 q1 : Nat) (x y : Nat → Bt) (l : List Bt) (a0 a7 : Option Addr) (u : World) : Prop where
  sx : IsTab u q0 26 32 fun i => bv (x i)
  sy : IsTab u q1 26 32 fun i => bv (y i)
  b0 : IsBs u a0 l
  b7 : IsBs u a7 l
  lt : ∀ x, a7 = some x → x.block < u.heap.size
  kt : Laid.KTab u
  below : Below W.heap.size W u
theorem Ss.next {W : World} {q0 q1 : Nat} {x y : Nat → Bt} {l : List Bt} {a0 a7 : Option Addr} {u v : World} (h : Ss W q0 q1 x y l a0 a7 u) (hb : Below u.heap.size u v) : Ss W q0 q1 x y l a0 a7 v :=
  ⟨h.sx.below hb, h.sy.below hb, isBs_keep h.b0 (fun _ _ _ _ => keep1 hb), isBs_keep h.b7 (fun _ _ _ _ => keep1 hb), fun x hx => Nat.lt_of_lt_of_le (h.lt x hx) hb.size, ktab_below h.kt hb, bl h.below hb⟩
theorem load32 {y : World} {q : Nat} {x : Nat → Bt} (h : IsTab y q 26 32 fun i => bv (x i)) :
    (Instr.loadAt 26 (.pointer (some ⟨q, 0, none⟩))).run Tryd.prog y = .ok (.agg (tab 32 fun i => bv (x i))) y :=
  run_loadAt_mid y q 0 _ ((List.range 32).map fun i => bv (x i)) _ (h.range 0 32 _ (Nat.le_refl _) (fun j _ => by rw [Nat.zero_add])) und26 rfl (by rw [List.length_map, List.length_range]; exact inf26')
set_option maxHeartbeats 16000000 in
set_option maxRecDepth 100000 in
theorem sums_walk (l : List Bt) (a0 : Option Addr) (cap0 : Nat) (x y : Nat → Bt) (w : World) (ht : Laid.KTab w) (hB : IsBs w a0 l) (hnil : a0 = none → l = [] ∧ cap0 = 0) (hcap : l.length ≤ cap0) (hmax : l.length ≤ 140737488351232) :
    Calls Tryd.prog 5 #[.slice a0 l.length cap0, .agg (tab 32 fun i => bv (x i)), .agg (tab 32 fun i => bv (y i))] w fun e w' => e = .returned (.bool true) ∧ Below w.heap.size w w' := by
  obtain ⟨i0, hi0, hi1, hi2, hi3⟩ := one1
  have HI := Lib.hid (And.intro hi0 (And.intro hi1 (And.intro hi2 hi3)))
  clear hi0 hi1 hi2 hi3
  have HT := Lib.hid ht
  have HB := Lib.hid hB
  have HN := Lib.hid hnil
  have HM := Lib.hid (And.intro hcap hmax)
  clear ht hB hnil hcap hmax
  go_enter Tryd.func5, Tryd.ntmps5
  go_upto_region 1 with (fail)
  have h1 : Hid (IsTab ((w.alloc (.cells (tab 32 fun i => bv (x i)) 26)).alloc (.cells (tab 32 fun i => bv (y i)) 26)) w.heap.size 26 32 (fun i => bv (x i)) ∧ IsTab ((w.alloc (.cells (tab 32 fun i => bv (x i)) 26)).alloc (.cells (tab 32 fun i => bv (y i)) 26)) (w.heap.size + 1) 26 32 (fun i => bv (y i)) ∧ Below w.heap.size w ((w.alloc (.cells (tab 32 fun i => bv (x i)) 26)).alloc (.cells (tab 32 fun i => bv (y i)) 26))) := by
    have e1 : (w.alloc (.cells (tab 32 fun i => bv (x i)) 26)).heap.size = w.heap.size + 1 := by simp
    refine Lib.hid ⟨(IsTab.new w _ 32 _).alloc _, ?_, ((Below.refl _ _).alloc (Nat.le_refl _) _).alloc (by simp) _⟩
    have := IsTab.new (w.alloc (.cells (tab 32 fun i => bv (x i)) 26)) 26 32 fun i => bv (y i)
    rw [e1] at this; exact this
  generalize (w.alloc (.cells (tab 32 fun i => bv (x i)) 26)).alloc (.cells (tab 32 fun i => bv (y i)) 26) = w1 at *
  generalize w.heap.size + 1 = q1 at *
  generalize hq0 : w.heap.size = q0 at *
  have HQ0 := Lib.hid hq0
  clear hq0
  have hown0 : Hid ((w1.alloc (.cells #[] 5)).ownsRow w1.heap.size 5 1 (.slice (some ⟨w1.heap.size, 0, none⟩) 0 0) 0 []) := Lib.hid ⟨rfl, .inr ⟨w1.heap.size, 0, #[], rfl, Nat.le_refl _, heap_alloc_new w1 _, Nat.le_refl _, by decide, rfl, rfl⟩⟩
  have hb1 : Below w.heap.size w w1 := by rw [HQ0.out]; exact h1.out.2.2
  have HB1 := Lib.hid hb1
  clear hb1
  have hsrc : Hid ((a0 = none ∧ l.length = 0 ∧ cap0 = 0 ∧ l.map bv = []) ∨ ∃ ad, a0 = some ad ∧ (l.map bv).length = l.length * 1 ∧ ∀ j u, (l.map bv)[j]? = some u → (w1.alloc (.cells #[] 5)).cell? (ad.add j) = some u) :=
    Lib.hid (src_of (w1.alloc (.cells #[] 5)) HB.out HN.out (fun b o v hv => by
      have h := keep1 HB1.out hv
      exact keep1 ((Below.refl _ _).alloc (Nat.le_refl _) _) h))
  have hlb : Hid (0 + l.length ≤ maxLen ∧ (0 + l.length) * 1 ≤ 140737488355328) := Lib.hid ⟨by have := HM.out.2; unfold maxLen; omega, by have := HM.out.2; omega⟩
  go_upto_region 2 with (refine wpList_append_any rfl (.tmp 8) (.tmp 9) 22 rfl w1.heap.size 5 i0 (.int .u8 0) 1 1 und22 HI.out rfl (by decide) _ 0 [] rfl hown0.out a0 l.length cap0 (l.map bv) rfl hsrc.out (by intro u hu; obtain ⟨b, _, rfl⟩ := List.mem_map.1 hu; rfl) hlb.out.1 hlb.out.2 (by simp) ?_; intro V1 w4 hown1 hgr1 hat1)
  have h4 : Hid (w4.ownsRow w1.heap.size 5 1 V1 l.length (l.map bv) ∧ Below w1.heap.size w1 w4) := by
    refine Lib.hid ⟨by have := hown1; rw [Nat.zero_add, List.nil_append] at this; exact this, below_grown (Nat.le_refl _) ((Below.refl _ _).alloc (Nat.le_refl _) _) hgr1 (fun k hk => by injection hk with hk; subst hk; exact Nat.le_refl _)⟩
  clear hown0 hsrc hlb hown1 hgr1 hat1
  obtain ⟨a7, c7, rfl, b7, n7, l7, m7, t7⟩ := slice_of h4.out.1
  have HB7 := Lib.hid (And.intro n7 (And.intro l7 m7))
  have HRa : Ss w q0 q1 x y l a0 a7 w4 := ⟨h1.out.1.below h4.out.2, h1.out.2.1.below h4.out.2, isBs_keep HB.out (fun b o v _ hv => by have h := keep1 HB1.out hv; exact keep1 h4.out.2 h), b7, t7, ktab_below HT.out (bl HB1.out h4.out.2), bl HB1.out h4.out.2⟩
  have HR : Hid (Ss w q0 q1 x y l a0 a7 w4.drew) := Lib.hid ⟨HRa.sx, HRa.sy, HRa.b0, HRa.b7, HRa.lt, HRa.kt, HRa.below.drew⟩
  clear n7 l7 m7 b7 t7 h4 HB1 h1 HRa
  have NE : Nonempty (Wd (Ss w q0 q1 x y l a0 a7)) := ⟨⟨_, HR.out⟩⟩
  have hld0 : ∀ u, (∃ z : Wd (Ss w q0 q1 x y l a0 a7), u = z.val) → (Instr.loadAt 26 (.pointer (some ⟨q0, 0, none⟩))).run Tryd.prog u = .ok (.agg (tab 32 fun i => bv (x i))) u := fun u ⟨z, hz⟩ => by
    rw [hz]; exact load32 z.ok.sx
  have hld1 : ∀ u, (∃ z : Wd (Ss w q0 q1 x y l a0 a7), u = z.val) → (Instr.loadAt 26 (.pointer (some ⟨q1, 0, none⟩))).run Tryd.prog u = .ok (.agg (tab 32 fun i => bv (y i))) u := fun u ⟨z, hz⟩ => by
    rw [hz]; exact load32 z.ok.sy
  have cv7 : ∀ u, (∃ z : Wd (Ss w q0 q1 x y l a0 a7), u = z.val) → (convert 22 9 (.slice a7 l.length c7)).run Tryd.prog u = .ok (.string (strOfNums (l.map Bv))) u := fun u ⟨z, hz⟩ => by
    rw [hz]; exact conv_bytes z.ok.b7 (fun h => (HB7.out.1 h).1)
  have cv0 : ∀ u, (∃ z : Wd (Ss w q0 q1 x y l a0 a7), u = z.val) → (convert 22 9 (.slice a0 l.length cap0)).run Tryd.prog u = .ok (.string (strOfNums (l.map Bv))) u := fun u ⟨z, hz⟩ => by
    rw [hz]; exact conv_bytes z.ok.b0 (fun h => (HN.out h).1)
  have LD0 := Lib.hid hld0
  have LD1 := Lib.hid hld1
  have CV7 := Lib.hid cv7
  have CV0 := Lib.hid cv0
  clear hld0 hld1 cv7 cv0
  have c1 := fun z : Wd (Ss w q0 q1 x y l a0 a7) => in_of_below z (fun y hb => z.ok.next hb) (fixed_walk permIs z.val z.ok.kt)
  have c2 := fun z : Wd (Ss w q0 q1 x y l a0 a7) => in_of_below z (fun y hb => z.ok.next hb) (sum_walk permIs l a7 c7 z.val z.ok.kt z.ok.b7 z.ok.lt HB7.out.2.1 HB7.out.2.2)
  have c3 := fun z : Wd (Ss w q0 q1 x y l a0 a7) => in_of_below z (fun y hb => z.ok.next hb) (rsum_walk l a0 cap0 z.val z.ok.b0 HN.out HM.out.1 HM.out.2)
  have c4 := fun z : Wd (Ss w q0 q1 x y l a0 a7) => in_of_below z (fun y hb => z.ok.next hb) (pair_walk permIs x y z.val z.ok.kt)
  have c5 := fun z : Wd (Ss w q0 q1 x y l a0 a7) => in_of_below z (fun y hb => z.ok.next hb) (rpair_walk x y z.val)
  have Q1 := Lib.hid c1
  have Q2 := Lib.hid c2
  have Q3 := Lib.hid c3
  have Q4 := Lib.hid c4
  have Q5 := Lib.hid c5
  clear c1 c2 c3 c4 c5
  have e1 : ∀ u, (binOp .eql 27 (.agg (tab 32 fun i => bv (sum l i))) (.agg (tab 32 fun i => bv (sum l i)))).run Tryd.prog u = .ok (.bool true) u := fun u => by rw [eql32, same32_refl]
  have e2 : ∀ u, (binOp .eql 27 (.agg (tab 32 fun i => bv (sum (both x y) i))) (.agg (tab 32 fun i => bv (sum (both x y) i)))).run Tryd.prog u = .ok (.bool true) u := fun u => by rw [eql32, same32_refl]
  have e3 : ∀ u, (binOp .eql 9 (.string (strOfNums (l.map Bv))) (.string (strOfNums (l.map Bv)))).run Tryd.prog u = .ok (.bool true) u := fun u => by simp [binOp_string_eql]
  generalize strOfNums (l.map Bv) = str at *
  generalize (tab 32 fun i => bv (sum (both x y) i)) = vp at *
  generalize (tab 32 fun i => bv (sum l i)) = vs at *
  generalize (tab 32 fun i => bv (x i)) = vx at *
  generalize (tab 32 fun i => bv (y i)) = vy at *
  refine wp_region_in (Ss w q0 q1 x y l a0 a7) (by kernel_rfl) (by kernel_rfl) HR.out ?_
  repeat (first
    | (refine wpQuiet_loadg 26 _ (.pointer (some ⟨q0, 0, none⟩)) _ (by rfl) rfl rfl LD0.out ?_; simp only [Act.put, List.setIfInBounds_toArray, List.set_cons_zero, List.set_cons_succ])
    | (refine wpQuiet_loadg 26 _ (.pointer (some ⟨q1, 0, none⟩)) _ (by rfl) rfl rfl LD1.out ?_; simp only [Act.put, List.setIfInBounds_toArray, List.set_cons_zero, List.set_cons_succ])
    | (refine wpQuiet_convg 22 9 _ (.slice a7 l.length c7) _ (by rfl) rfl rfl CV7.out ?_; simp only [Act.put, List.setIfInBounds_toArray, List.set_cons_zero, List.set_cons_succ])
    | (refine wpQuiet_convg 22 9 _ (.slice a0 l.length cap0) _ (by rfl) rfl rfl CV0.out ?_; simp only [Act.put, List.setIfInBounds_toArray, List.set_cons_zero, List.set_cons_succ])
    | (go_big_quiet_step (first | with_reducible exact Q1.out _ | with_reducible exact Q2.out _ | with_reducible exact Q3.out _ | with_reducible exact Q4.out _ | with_reducible exact Q5.out _)))
  refine wpQuiet_nil ?_
  rintro _ ⟨z, rfl⟩
  go_wp2_with fail
  go_ret
  exact ⟨rfl, z.ok.below⟩
end Kc
end Go.Proofs.YtdmbmilfclllaaaDoor
