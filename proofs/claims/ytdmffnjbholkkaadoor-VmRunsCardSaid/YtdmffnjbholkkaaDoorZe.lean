/-
  witness.note: what stores have in common learns a preimage. Written by genZe.py. Own work.
-/
import Derived.Test.YtdmffnjbholkkaaDoorZb
import Derived.Test.YtdmffnjbholkkaaDoorOt
import Derived.Outline
namespace Go.Proofs.YtdmffnjbholkkaaDoor
open Go.RowKit
set_option linter.unusedVariables false
set_option linter.unusedSimpArgs false
section
variable {P : Program}
theorem wp_mapUpdate {o : Oper} {a : Act} {w : World} {K : Act → World → Prop} {Q : Exit → Act → World → Prop} (d : Option Tmp) (hd : o.dst = d) (t : TypeId) (m x v : Operand) (vm vx vv : Value) (ho : o.op = .mapUpdate t m x v) (hm : a.eval m = vm) (hx : a.eval x = vx) (hv : a.eval v = vv)
    (w' : World) (hr : (Instr.mapUpdate t vm vx vv).run P w = .ok () w') (h : K (a.put d undef) w') : Oper.wp P o a w K Q := by
  subst hd
  unfold Oper.wp
  simp [execOp, ho, hm, hx, hv, hr, Result.andThen]
  exact h
theorem wpList_buildE {ops : Array Oper} {rest : List Oper} {o : Oper} {a : Act} {w : World} {Q : Exit → Act → World → Prop} (hg : o.guard = none) (t : TypeId) (parts : Array (Nat × Operand)) (ho : o.op = .build t parts)
    (vs : Array (Nat × Value)) (hx : (parts.map fun (i, x) => (i, a.eval x)) = vs) (v : Value) (hl : (Instr.build t vs).run P w = .ok v w)
    (h : wpList P ops Q rest (a.put o.dst v) w) : wpList P ops Q (o :: rest) a w :=
  wpList_plain hg fun _ hK => by
    unfold Oper.wp execOp
    simp only [ho]
    rw [hx]
    simp [hl, Result.andThen]
    exact hK _ _ h
end
namespace Wt
open Kc Mk
theorem loadHb {w : World} {q : Nat} {x : Hx} (h : IsTab w q 39 32 fun i => bv (x i)) : (Instr.loadAt 39 (.pointer (some ⟨q, 0, none⟩))).run Tryd.prog w = .ok (.agg (tab 32 fun i => bv (x i))) w := by
  have h5 : At5 w q 0 1 (fun _ => x) := fun k j hk hj => by
    rw [show 0 + 32 * k + j = j from by omega]; exact h.cell j hj
  exact loadH h5 (k := 0) (p := 0) (by decide) (by decide)
theorem loadPb {w : World} {q : Nat} {p : Px} (h : IsTab w q 37 64 fun i => bv (p i)) : (Instr.loadAt 37 (.pointer (some ⟨q, 0, none⟩))).run Tryd.prog w = .ok (.agg (tab 64 fun i => bv (p i))) w := by
  refine run_loadAt_mid w q 0 _ ((List.range 64).map fun i => bv (p i)) _ (fun j v hv => ?_) undPre rfl (by rw [List.length_map, List.length_range]; exact infPre')
  obtain ⟨hj, rfl⟩ := List.getElem?_eq_some_iff.1 hv
  simp only [List.length_map, List.length_range] at hj
  have := h.cell j hj
  simpa using this
theorem undPre64 : Tryd.prog.underlying 37 = some (.array 64 5) := by kernel_rfl
def same64 (a b : Px) : Bool := (List.range 64).all fun i => Bv (a i) == Bv (b i)
theorem same64_iff (a b : Px) : same64 a b = true ↔ pre a = pre b := by
  unfold same64
  rw [List.all_eq_true]
  constructor
  · intro h
    exact pre_of fun i hi => Bv_inj (by simpa using h i (List.mem_range.2 hi))
  · intro h i hi
    have hi' := List.mem_range.1 hi
    have := congrArg (fun l => l.getD i 0#8) h
    simp only [pre_at _ i hi'] at this
    rw [this]; simp
theorem neq64 (a b : Px) (w : World) : (binOp .neq 37 (.agg (tab 64 fun i => bv (a i))) (.agg (tab 64 fun i => bv (b i)))).run Tryd.prog w = .ok (.bool (!same64 a b)) w := by
  have h := run_equal_tab (P := Tryd.prog) w 9998 37 5 64 .u8 undPre64 undU8 sizeU8 (fun i => Bv (a i)) (fun i => Bv (b i))
  rw [run_neq_struct]
  exact (congrArg (fun r => r.andThen fun b w' => Result.ok (Value.bool (!b)) w') h)
theorem look_pv {w : World} {b : Nat} {M : List (Hx × Px)} (h : IsMp pv w b M) (k : Hx) (r : Px) (hr : (look M k).getD zp = r) :
    (Instr.lookup 114 (.map (some b)) (.agg (tab 32 fun i => bv (k i))) true).run Tryd.prog w = .ok (.tuple #[.agg (tab 64 fun i => bv (r i)), .bool (has M k)]) w := by
  have := h.look_ok undMP (zeroP w) k
  have e : ((look M k).map pv).getD (pv zp) = pv r := by rw [← hr]; cases look M k <;> rfl
  rw [e] at this
  exact this
theorem store_pv {w : World} {b : Nat} {M : List (Hx × Px)} (h : IsMp pv w b M) (k : Hx) (p : Px) :
    ∃ w', (Instr.mapUpdate 114 (.map (some b)) (.agg (tab 32 fun i => bv (k i))) (.agg (tab 64 fun i => bv (p i)))).run Tryd.prog w = .ok () w' ∧ IsMp pv w' b (putM M k p) ∧ Kept (· = b) w w' ∧ w'.heap.size = w.heap.size := h.store undMP k p
theorem kept_of {S : Nat → Prop} {w a b : World} (h1 : Below w.heap.size w a) (h2 : Kept S a b) : Kept S w b := (Kept.ofBelow h1).trans h2 fun _ _ h => h
theorem updv_same (g : Nat → Value) (i : Nat) (x : Value) : updv g i x i = x := by simp [updv]
theorem updv_ne (g : Nat → Value) {i j : Nat} (x : Value) (h : j ≠ i) : updv g i x j = g j := by simp [updv, h]
theorem build2 (r p : Px) (w : World) : (Instr.build 123 #[(0, .agg (tab 64 fun i => bv (r i))), (1, .agg (tab 64 fun i => bv (p i)))]).run Tryd.prog w = .ok (.agg (tab 128 fun i => if i < 64 then bv (r i) else bv (p (i - 64)))) w := by kernel_rfl
theorem inf2P' : (Tryd.prog.info? 123).map (·.size) = some 128 := by kernel_rfl
theorem inf2P (g : Nat → Value) : (Tryd.prog.info? 123).map (·.size) = some (tab 128 g).size := by rw [tab_size]; exact inf2P'
theorem kept_setCells {S : Nat → Prop} {a : World} {q : Nat} (hq : S q) : ∀ (vs : List Value) (o : Nat) (w : World), Kept S a w → Kept S a (w.setCells q o vs)
  | [], _, _, h => h
  | v :: r, o, w, h => kept_setCells hq r (o + 1) _ (h.setCell (.inl hq) v)
theorem set_clash {w : World} {kb fb : Nat} {g : Nat → Value} {fd : Bool} {F : List (Hx × Px)} (h : IsKin w kb fb g fd F) (r p : Px) :
    ∃ g', IsKin (w.setCells kb 1 (tab 128 fun i => if i < 64 then bv (r i) else bv (p (i - 64))).toList) kb fb g' fd F ∧ Kept (fun k => k = kb ∨ k = fb) w (w.setCells kb 1 (tab 128 fun i => if i < 64 then bv (r i) else bv (p (i - 64))).toList) := by
  have hl : (tab 128 fun i => if i < 64 then bv (r i) else bv (p (i - 64))).toList.length = 128 := by simp [tab]
  refine ⟨_, ⟨IsTab.setCells _ 1 w g h.tab, ?_, fun i h1 h2 => ?_, ?_, h.map.kept (kept_setCells (S := fun k => k = kb) rfl _ _ _ (Kept.refl _ _)) (fun e => h.ne e.symm)⟩, kept_setCells (.inl rfl) _ _ _ (Kept.refl _ _)⟩
  · rw [if_neg (by omega)]; exact h.c0
  · rw [if_pos (by rw [hl]; omega)]
    have : (tab 128 fun i => if i < 64 then bv (r i) else bv (p (i - 64))).toList.getD (i - 1) (.int .i64 0) = if i - 1 < 64 then bv (r (i - 1)) else bv (p (i - 1 - 64)) := by
      simp [tab, show i - 1 < 128 from by omega]
    rw [this]
    split
    · exact ⟨_, rfl⟩
    · exact ⟨_, rfl⟩
  · rw [if_neg (by rw [hl]; omega)]; exact h.fd
theorem set_found {w : World} {kb fb : Nat} {g : Nat → Value} {fd : Bool} {F : List (Hx × Px)} (h : IsKin w kb fb g fd F) : IsKin (w.setCell ⟨kb, 129, none⟩ (.bool true)) kb fb (updv g 129 (.bool true)) true F :=
  ⟨h.tab.set 129 _, by rw [updv_ne _ _ (by decide)]; exact h.c0, fun i h1 h2 => by rw [updv_ne _ _ (by omega)]; exact h.cl i h1 h2, updv_same _ _ _, h.map.kept ((Kept.refl (fun k => k = kb) _).setCell (.inl rfl) _) (fun e => h.ne e.symm)⟩
set_option maxHeartbeats 4000000 in
set_option maxRecDepth 100000 in
theorem note_walk (kb fb : Nat) (h : Hx) (p : Px) (w : World) (hk : Kin w kb fb) :
    Calls Tryd.prog 51 #[.pointer (some ⟨kb, 0, none⟩), dv h, pv p] w fun e w' => e = .returned (.tuple #[]) ∧ Kin w' kb fb ∧ Kept (fun k => k = kb ∨ k = fb) w w' := by
  obtain ⟨g, fd, F, hk⟩ := hk
  have z1 := zeroPre
  generalize hz : (tab 64 fun _ => bv 0#8) = zq at *
  have HZ := Lib.hid hz
  clear hz
  have HI : Hid ((Tryd.prog.info? 37).map (·.size) = some zq.size) := Lib.hid (by rw [← HZ.out]; exact infPre _)
  generalize hr : (look F h).getD zp = r at *
  have HR := Lib.hid hr
  clear hr
  unfold dv pv
  have HK := Lib.hid hk
  clear hk
  go_enter Tryd.func51, Tryd.ntmps51
  go_upto_region 1 with (fail)
  have H1 : Hid (IsTab ((w.alloc (.cells (tab 32 fun i => bv (h i)) 39)).alloc (.cells (tab 64 fun i => bv (p i)) 37)) w.heap.size 39 32 (fun i => bv (h i)) ∧ IsTab ((w.alloc (.cells (tab 32 fun i => bv (h i)) 39)).alloc (.cells (tab 64 fun i => bv (p i)) 37)) (w.heap.size + 1) 37 64 (fun i => bv (p i)) ∧
      Below w.heap.size w ((w.alloc (.cells (tab 32 fun i => bv (h i)) 39)).alloc (.cells (tab 64 fun i => bv (p i)) 37)) ∧ ((w.alloc (.cells (tab 32 fun i => bv (h i)) 39)).alloc (.cells (tab 64 fun i => bv (p i)) 37)).heap.size = w.heap.size + 2) := by
    refine Lib.hid ⟨(IsTab.new w _ 32 _).alloc _, ?_, ((Below.refl _ _).alloc (Nat.le_refl _) _).alloc (by simp) _, by simp⟩
    have := IsTab.new (w.alloc (.cells (tab 32 fun i => bv (h i)) 39)) 37 64 fun i => bv (p i)
    simpa using this
  generalize (w.alloc (.cells (tab 32 fun i => bv (h i)) 39)).alloc (.cells (tab 64 fun i => bv (p i)) 37) = y00 at *
  have HK0 : Hid (IsKin y00 kb fb g fd F) := Lib.hid (HK.out.kept (Kept.ofBelow (S := fun _ => False) H1.out.2.2.1) id id)
  have H1 : Hid (IsTab y00.drew w.heap.size 39 32 (fun i => bv (h i)) ∧ IsTab y00.drew (w.heap.size + 1) 37 64 (fun i => bv (p i)) ∧ Below w.heap.size w y00.drew ∧ y00.drew.heap.size = w.heap.size + 2) := Lib.hid ⟨H1.out.1.drew, H1.out.2.1.drew, H1.out.2.2.1.drew, H1.out.2.2.2⟩
  have HK0 : Hid (IsKin y00.drew kb fb g fd F) := Lib.hid (HK0.out.kept (Kept.drew (Kept.refl (fun _ => False) _)) id id)
  have HB : Hid (∀ y, Below y00.drew.heap.size y00.drew y → (Instr.lookup 114 (.map (some fb)) (.agg (tab 32 fun i => bv (h i))) true).run Tryd.prog y = .ok (.tuple #[.agg (tab 64 fun i => bv (r i)), .bool (has F h)]) y) := Lib.hid fun y hy => look_pv (HK0.out.map.below hy) h r HR.out
  generalize hb : has F h = b at *
  have HBB := Lib.hid hb
  clear hb
  refine wp_region_og (fun y : World => Below y00.drew.heap.size y00.drew y) (.take 0 (.take 1 (.take 2 (.take 3 (.take 4 (.take 5 (.take 6 (.take 7 (.take 8 (.one 9 (.one 10 (.one 11 .done)))))))))))) (by kernel_rfl) (by kernel_rfl) (Below.refl _ _) ?_
  generalize y00.drew = y0 at *
  refine og_tk (some 9) (.pointer (some ⟨kb, 0, none⟩)) rfl rfl (by go_simp) (fun _ _ => by simp [execOp, go_sem]) ?_
  simp only [Act.put, pS]
  refine og_tk (some 10) (.pointer (some ⟨kb, 0, none⟩)) rfl rfl (by go_simp) (fun _ _ => by simp [execOp, go_sem]) ?_
  simp only [Act.put, pS]
  refine og_tk (some 11) (.pointer (some ⟨kb, 0, none⟩)) rfl rfl (by go_simp) (fun _ _ => by simp [execOp, go_sem]) ?_
  simp only [Act.put, pS]
  refine og_ld (some 12) 114 (.tmp 11) (.pointer (some ⟨kb, 0, none⟩)) (.map (some fb)) rfl rfl (by go_simp) rfl rfl (fun y hy => by have h := (keep1 hy (HK0.out.tab.cell 0 (by decide))).trans (congrArg some HK0.out.c0); simp [Instr.loadAt, go_sem, h, Tryd.underlying114]) ?_
  simp only [Act.put, pS]
  refine og_ld (some 13) 39 (.tmp 4) (.pointer (some ⟨w.heap.size, 0, none⟩)) (.agg (tab 32 fun i => bv (h i))) rfl rfl (by go_simp) rfl rfl (fun y hy => loadHb (H1.out.1.below hy)) ?_
  simp only [Act.put, pS]
  refine og_tk (some 14) (.tuple #[.agg (tab 64 fun i => bv (r i)), .bool b]) rfl rfl (by go_simp) (fun y hy => by have h := HB.out y hy; simp [execOp, go_sem, h, Result.andThen]) ?_
  simp only [Act.put, pS]
  refine og_tk (some 8) (.tuple #[.agg (tab 64 fun i => bv (r i)), .bool b]) rfl rfl (by go_simp) (fun _ _ => by simp [execOp, go_sem]) ?_
  simp only [Act.put, pS]
  refine og_tk (some 15) (.agg (tab 64 fun i => bv (r i))) rfl rfl (by go_simp) (fun _ _ => by simp [execOp, go_sem]) ?_
  simp only [Act.put, pS]
  refine og_tk (some 16) (.bool b) rfl rfl (by go_simp) (fun _ _ => by simp [execOp, go_sem]) ?_
  simp only [Act.put, pS]
  have HN : Hid (Below y0.heap.size y0 (y0.alloc (.cells zq 37)) ∧ IsTab (y0.alloc (.cells zq 37)) y0.heap.size 37 64 (fun _ => bv 0#8)) := Lib.hid ⟨(Below.refl _ _).alloc (Nat.le_refl _) _, by rw [← HZ.out]; exact IsTab.new y0 _ 64 _⟩
  refine og_f rfl (by go_simp) fun K hK => ?_
  go_simp
  refine hK _ _ (HN.out.1) ?_
  clear hK K
  generalize y0.alloc (.cells zq 37) = y1 at *
  have HS : Hid (Below y0.heap.size y0 (y1.setRow y0.heap.size (tab 64 fun i => bv (r i))) ∧ IsTab (y1.setRow y0.heap.size (tab 64 fun i => bv (r i))) y0.heap.size 37 64 (fun i => bv (r i))) := Lib.hid ⟨below_setRow HN.out.1 (Nat.le_refl _) _, HN.out.2.row⟩
  refine og_f rfl (by go_simp) fun K hK => ?_
  refine wp_store_row 37 (.tmp 6) (.tmp 15) rfl y0.heap.size (tab 64 fun i => bv (r i)) rfl rfl 37 _ HN.out.2 (infPre _) (by rw [tab_size, tab_size]) (one_bv _ _) ?_
  refine hK _ _ HS.out.1 ?_
  clear hK K
  simp only [Act.put, pS]
  generalize y1.setRow y0.heap.size (tab 64 fun i => bv (r i)) = y2 at *
  refine og_f rfl (by go_simp) fun K hK => ?_
  go_simp
  refine hK _ _ (HS.out.1) ?_
  clear hK K
  refine og_done (NoPanic.normal ?_)
  have HK2 : Hid (IsKin y2 kb fb g fd F) := Lib.hid (HK0.out.kept (Kept.ofBelow (S := fun _ => False) HS.out.1) id id)
  have H2 : Hid (IsTab y2 w.heap.size 39 32 (fun i => bv (h i)) ∧ IsTab y2 (w.heap.size + 1) 37 64 (fun i => bv (p i)) ∧ Below w.heap.size w y2) := Lib.hid ⟨H1.out.1.below HS.out.1, H1.out.2.1.below HS.out.1, bl H1.out.2.2.1 HS.out.1⟩
  have H3 : Hid (IsTab y2 y0.heap.size 37 64 (fun i => bv (r i))) := Lib.hid HS.out.2
  have HQ : Hid (y0.heap.size = w.heap.size + 2 ∧ kb < w.heap.size ∧ fb < w.heap.size) := Lib.hid ⟨H1.out.2.2.2, HK.out.tab.lt, HK.out.map.lt⟩
  clear HS HN HB HK0 H1 HZ HI HK
  generalize y0.heap.size = q2 at *
  cases b
  · skip
    go_upto_region 3 with (fail)
    have HK3 : Hid (IsKin y2.drew kb fb g fd F) := Lib.hid (HK2.out.kept (Kept.drew (Kept.refl (fun _ => False) _)) id id)
    have H4 : Hid (IsTab y2.drew w.heap.size 39 32 (fun i => bv (h i)) ∧ IsTab y2.drew (w.heap.size + 1) 37 64 (fun i => bv (p i)) ∧ Below w.heap.size w y2.drew) := Lib.hid ⟨H2.out.1.drew, H2.out.2.1.drew, H2.out.2.2.drew⟩
    obtain ⟨w4, hr4, hm4, hk4, hs4⟩ := store_pv HK3.out.map h p
    have HR4 := Lib.hid hr4
    have HM4 := Lib.hid (And.intro hm4 hk4)
    clear hr4 hm4 hk4 hs4
    refine wp_region_og (fun y : World => Kept (fun k => k = fb) y2.drew y) (.take 0 (.take 1 (.take 2 (.take 3 (.take 4 (.take 5 (.one 6 .done))))))) (by kernel_rfl) (by kernel_rfl) (Kept.refl _ _) ?_
    generalize y2.drew = y3 at *
    refine og_tk (some 19) (.pointer (some ⟨kb, 0, none⟩)) rfl rfl (by go_simp) (fun _ _ => by simp [execOp, go_sem]) ?_
    simp only [Act.put, pS]
    refine og_tk (some 20) (.pointer (some ⟨kb, 0, none⟩)) rfl rfl (by go_simp) (fun _ _ => by simp [execOp, go_sem]) ?_
    simp only [Act.put, pS]
    refine og_tk (some 21) (.pointer (some ⟨kb, 0, none⟩)) rfl rfl (by go_simp) (fun _ _ => by simp [execOp, go_sem]) ?_
    simp only [Act.put, pS]
    refine og_ld (some 22) 114 (.tmp 21) (.pointer (some ⟨kb, 0, none⟩)) (.map (some fb)) rfl rfl (by go_simp) rfl rfl (fun y hy => by have h := (hy.cell HK3.out.ne (HK3.out.tab.cell 0 (by decide))).trans (congrArg some HK3.out.c0); simp [Instr.loadAt, go_sem, h, Tryd.underlying114]) ?_
    simp only [Act.put, pS]
    refine og_ld (some 23) 39 (.tmp 4) (.pointer (some ⟨w.heap.size, 0, none⟩)) (.agg (tab 32 fun i => bv (h i))) rfl rfl (by go_simp) rfl rfl (fun y hy => loadHb (Wt.IsTab.kept H4.out.1 hy (by have := HQ.out; omega))) ?_
    simp only [Act.put, pS]
    refine og_ld (some 24) 37 (.tmp 5) (.pointer (some ⟨(w.heap.size + 1), 0, none⟩)) (.agg (tab 64 fun i => bv (p i))) rfl rfl (by go_simp) rfl rfl (fun y hy => loadPb (Wt.IsTab.kept H4.out.2.1 hy (by have := HQ.out; omega))) ?_
    simp only [Act.put, pS]
    refine og_f rfl (by go_simp) fun K hK => ?_
    refine wp_mapUpdate none rfl 114 (.tmp 22) (.tmp 23) (.tmp 24) _ _ _ rfl rfl rfl rfl w4 HR4.out ?_
    refine hK _ _ HM4.out.2 ?_
    clear hK K
    simp only [Act.put, pS]
    refine og_done (NoPanic.normal ?_)
    go_wp2_with (fail)
    refine bodyPost_ret (v := .tuple #[]) (by simp [results, Tryd.results51, go_sem]) rfl ⟨rfl, ⟨g, fd, putM F h p, ⟨Wt.IsTab.kept HK3.out.tab HM4.out.2 HK3.out.ne, HK3.out.c0, HK3.out.cl, HK3.out.fd, HM4.out.1⟩⟩, (kept_of H4.out.2.2 HM4.out.2).mono fun k _ hk => .inr hk⟩
  · have hne := neq64 r p
    have HL1 := Lib.hid (loadPb H3.out)
    have HL2 := Lib.hid (loadPb H2.out.2.1)
    have HNE := Lib.hid hne
    clear hne
    generalize hs : same64 r p = sm at *
    clear hs HBB
    have k129 : y2.cell? ⟨kb, 129, none⟩ = some (.bool fd) := (HK2.out.tab.cell 129 (by decide)).trans (congrArg some HK2.out.fd)
    have HKK : Hid (Kept (fun k => k = kb ∨ k = fb) w y2) := Lib.hid (Kept.ofBelow H2.out.2.2)
    cases sm
    · have hne := HNE.out
      cases fd
      · skip
        go_upto_region 5 with (first | ((with_reducible refine wpList_loadE (P := Tryd.prog) (w := y2) (ty := 37) (x := .tmp 6) (p := .pointer (some ⟨q2, 0, none⟩)) (v := .agg (tab 64 fun i => bv (r i))) ?_ ?_ ?_ HL1.out ?_); (· exact rfl); (· exact rfl); (· exact rfl)) | ((with_reducible refine wpList_loadE (P := Tryd.prog) (w := y2) (ty := 37) (x := .tmp 5) (p := .pointer (some ⟨w.heap.size + 1, 0, none⟩)) (v := .agg (tab 64 fun i => bv (p i))) ?_ ?_ ?_ HL2.out ?_); (· exact rfl); (· exact rfl); (· exact rfl)))
        have HTH : Hid (y2.there kb 1 (tab 128 fun i => if i < 64 then bv (r i) else bv (p (i - 64))).size) := Lib.hid (by rw [tab_size]; exact HK2.out.tab.thereAt 1 128 (by decide))
        have HK6 := Lib.hid (set_clash HK2.out r p)
        have HI6 := Lib.hid (inf2P fun i => if i < 64 then bv (r i) else bv (p (i - 64)))
        have HO6 : Hid ((tab 128 fun i => if i < 64 then bv (r i) else bv (p (i - 64))).all (·.oneCell') = true) := Lib.hid (tab_one fun i => by split <;> rfl)
        have HBB := Lib.hid (build2 r p)
        generalize (tab 128 fun i => if i < 64 then bv (r i) else bv (p (i - 64))) = c2 at *
        go_upto_region 6 with (first
          | (first | ((with_reducible refine wpList_loadE (P := Tryd.prog) (w := y2) (ty := 37) (x := .tmp 6) (p := .pointer (some ⟨q2, 0, none⟩)) (v := .agg (tab 64 fun i => bv (r i))) ?_ ?_ ?_ HL1.out ?_); (· exact rfl); (· exact rfl); (· exact rfl)) | ((with_reducible refine wpList_loadE (P := Tryd.prog) (w := y2) (ty := 37) (x := .tmp 5) (p := .pointer (some ⟨w.heap.size + 1, 0, none⟩)) (v := .agg (tab 64 fun i => bv (p i))) ?_ ?_ ?_ HL2.out ?_); (· exact rfl); (· exact rfl); (· exact rfl)))
          | ((with_reducible refine wpList_buildE (P := Tryd.prog) (w := y2) ?_ 123 #[(0, .tmp 36), (1, .tmp 37)] ?_ #[(0, .agg (tab 64 fun i => bv (r i))), (1, .agg (tab 64 fun i => bv (p i)))] ?_ (.agg c2) (HBB.out y2) ?_); (· exact rfl); (· exact rfl); (· simp [go_sem]))
          | ((with_reducible refine wpList_store_mid (P := Tryd.prog) (w := y2) ?_ 123 (.tmp 40) (.tmp 38) ?_ kb 1 c2 ?_ ?_ HTH.out HI6.out HO6.out ?_); (· exact rfl); (· exact rfl); (· exact rfl); (· exact rfl)))
        generalize y2.setCells kb 1 c2.toList = y6 at *
        obtain ⟨g6, hk6, ht6⟩ := HK6.out
        have HK7 := Lib.hid (And.intro hk6 ht6)
        have k1 : y6.cell? ⟨kb, 129, none⟩ = some (.bool false) := (hk6.tab.cell 129 (by decide)).trans (congrArg some hk6.fd)
        have f1 := hk6.tab.fz 129
        clear HBB hne k129 HK6 hk6 ht6
        go_wp2_with (fail)
        refine bodyPost_end (v := .tuple #[]) (by simp [results, Tryd.results51, go_sem]) rfl ⟨rfl, ⟨_, true, F, set_found HK7.out.1⟩, (HKK.out.trans HK7.out.2 fun _ _ h => h).setCell (.inl (.inl rfl)) _⟩
      · skip
        go_wp2_with (first | ((with_reducible refine wpList_loadE (P := Tryd.prog) (w := y2) (ty := 37) (x := .tmp 6) (p := .pointer (some ⟨q2, 0, none⟩)) (v := .agg (tab 64 fun i => bv (r i))) ?_ ?_ ?_ HL1.out ?_); (· exact rfl); (· exact rfl); (· exact rfl)) | ((with_reducible refine wpList_loadE (P := Tryd.prog) (w := y2) (ty := 37) (x := .tmp 5) (p := .pointer (some ⟨w.heap.size + 1, 0, none⟩)) (v := .agg (tab 64 fun i => bv (p i))) ?_ ?_ ?_ HL2.out ?_); (· exact rfl); (· exact rfl); (· exact rfl)))
        refine bodyPost_end (v := .tuple #[]) (by simp [results, Tryd.results51, go_sem]) rfl ⟨rfl, ⟨g, _, F, HK2.out⟩, HKK.out⟩
    · have hne := HNE.out
      go_wp2_with (first | ((with_reducible refine wpList_loadE (P := Tryd.prog) (w := y2) (ty := 37) (x := .tmp 6) (p := .pointer (some ⟨q2, 0, none⟩)) (v := .agg (tab 64 fun i => bv (r i))) ?_ ?_ ?_ HL1.out ?_); (· exact rfl); (· exact rfl); (· exact rfl)) | ((with_reducible refine wpList_loadE (P := Tryd.prog) (w := y2) (ty := 37) (x := .tmp 5) (p := .pointer (some ⟨w.heap.size + 1, 0, none⟩)) (v := .agg (tab 64 fun i => bv (p i))) ?_ ?_ ?_ HL2.out ?_); (· exact rfl); (· exact rfl); (· exact rfl)))
      refine bodyPost_end (v := .tuple #[]) (by simp [results, Tryd.results51, go_sem]) rfl ⟨rfl, ⟨g, _, F, HK2.out⟩, HKK.out⟩
end Wt
end Go.Proofs.YtdmffnjbholkkaaDoor
